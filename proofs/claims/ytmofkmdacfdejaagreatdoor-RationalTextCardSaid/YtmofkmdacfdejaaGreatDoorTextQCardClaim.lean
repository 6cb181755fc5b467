/-
  Texts of this seat, joined.
-/
import Derived.Test.YtmofkmdacfdejaaGreatDoorJ7
import Derived.StillTailTactics
import Derived.IntWalk
import Derived.Test.YtmofkmdacfdejaaGreatDoorTie
import Derived.Test.YtmofkmdacfdejaaGreatDoorCards
import Derived.SevenTiedAt
/- ---- Rga ---- -/
section
/-
  Format of the reference: the decimal text of an integer.
-/
set_option maxRecDepth 100000
namespace Go.Proofs.YtmofkmdacfdejaaGreatDoor
open Go.RowKit Go.Shelf

theorem pad_front : ∀ (k r : Nat), pad (k + 1) r = UInt8.ofNat (48 + r / 10 ^ k % 10) :: pad k r
  | 0, r => by simp [pad]
  | k + 1, r => by
    rw [pad, pad_front k (r / 10), Nat.div_div_eq_div_mul, show 10 * 10 ^ k = 10 ^ (k + 1) by rw [Nat.pow_succ, Nat.mul_comm]]
    rfl
theorem groups_snoc (x : Nat) : ∀ (l : List Nat), groups (l ++ [x]) = pad 9 x ++ groups l
  | [] => by simp [groups]
  | y :: l => by rw [List.cons_append, groups, groups_snoc x l, groups, List.append_assoc]
theorem groups_length : ∀ (l : List Nat), (groups l).length = 9 * l.length
  | [] => rfl
  | x :: l => by rw [groups, List.length_append, pad_length, groups_length l, List.length_cons]; omega
theorem pad_strip : ∀ (k r : Nat), 0 < r → r < 10 ^ k → (pad k r).dropWhile (· == 48) = Lib.decDigits r
  | 0, r, h, h2 => by simp at h2; omega
  | k + 1, r, h, h2 => by
    rw [pad]
    by_cases h10 : r < 10
    · have : r / 10 = 0 := by omega
      rw [this, Lib.decDigits, dif_pos h10]
      have e : ∀ k, (pad k 0 ++ [UInt8.ofNat (48 + r % 10)]).dropWhile (· == 48) = [UInt8.ofNat (48 + r % 10)] := by
        intro k
        induction k with
        | zero =>
          have hne : (UInt8.ofNat (48 + r % 10) == 48) = false := by
            rw [beq_eq_false_iff_ne]
            intro e
            have := congrArg UInt8.toNat e
            rw [UInt8.toNat_ofNat'] at this
            have e48 : (48 : UInt8).toNat = 48 := rfl
            rw [e48] at this
            omega
          show ([] ++ [UInt8.ofNat (48 + r % 10)]).dropWhile (· == 48) = _
          rw [List.nil_append, List.dropWhile_cons, hne]
          rfl
        | succ k ih =>
          rw [pad_front]
          have : 0 / 10 ^ k % 10 = 0 := by simp
          rw [this]
          show ((48 : UInt8) :: (pad k 0 ++ _)).dropWhile (· == 48) = _
          rw [List.dropWhile_cons]
          exact ih
      rw [e, show r % 10 = r by omega]
    · have ih := pad_strip k (r / 10) (by omega) (by rw [Nat.pow_succ] at h2; omega)
      rw [Lib.decDigits, dif_neg h10, ← ih, List.dropWhile_append]
      have hne : ((pad k (r / 10)).dropWhile (· == 48)).isEmpty = false := by
        rw [ih]
        cases hd : Lib.decDigits (r / 10) with
        | nil => have := Lib.decDigits_length (r / 10); rw [hd] at this; have := Lib.nDigits_pos (r / 10); simp at *; omega
        | cons a l => rfl
      rw [hne]
      rfl
theorem ba_eq {t : ByteArray} {L : List UInt8} (h : t.data.toList = L) : t = ⟨L.toArray⟩ := by
  cases t with | mk d => subst h; simp
theorem ba_tail {t : ByteArray} {c : UInt8} {r : List UInt8} (h : t.data.toList = c :: r) : (t.extract 1 t.size).data.toList = r ∧ (t.extract 1 t.size).size + 1 = t.size := by
  have hl : r.length + 1 = t.size := by rw [← bytes_len, h, List.length_cons]
  have e : (t.extract 1 t.size).data.toList = r := by
    rw [ByteArray.data_extract, Array.toList_extract, h, List.extract_eq_take_drop]
    show List.take _ r = r
    exact List.take_of_length_le (by omega)
  exact ⟨e, by rw [← bytes_len, e, hl]⟩
theorem conv_digit (w : World) : ∀ (d : Nat), d < 10 → (convert 21 9 (.int .i32 (48 + (d : Int)))).run Tryz.prog w = .ok (.string ⟨#[UInt8.ofNat (48 + d)]⟩) w
  | 0, _ => by kernel_rfl
  | 1, _ => by kernel_rfl
  | 2, _ => by kernel_rfl
  | 3, _ => by kernel_rfl
  | 4, _ => by kernel_rfl
  | 5, _ => by kernel_rfl
  | 6, _ => by kernel_rfl
  | 7, _ => by kernel_rfl
  | 8, _ => by kernel_rfl
  | 9, _ => by kernel_rfl
  | d + 10, h => by omega

set_option maxRecDepth 100000 in
set_option maxHeartbeats 3200000 in
theorem rformat_calls (w : World) (v : Value) (z : Int) (h : IsInt w v z) (l : Lim 100000 z) :
    Calls Tryz.prog 95 #[v] w fun e w' => e = .returned (.string ⟨(Lib.itoa z).toArray⟩) ∧ Ext w w' := by
  obtain ⟨ao, cap, s, n, rfl, h1, h2, h3, H4, H5, H6⟩ := h.open_
  obtain ⟨W, hWW, eW, c0, c1⟩ := box1 w (.bool s) (.slice ao (limbs n).length cap) 24
  rcases Nat.eq_zero_or_pos n with h0 | h0
  · subst h0
    have hz : z = 0 := by have h5 := H5.out; cases s <;> simpa [sgn] using h5
    subst hz
    have HR : Hid (Lib.itoa 0 = [48]) := by unfold Hid; exact (Lib.itoa_nonneg 0).trans (Lib.decDigits_one (by omega))
    rw [limbs_zero] at h1 c1 hWW
    clear H4 H5 H6 l h h3
    go_enter Tryz.func95, Tryz.ntmps95
    go_wp2
    go_ret
    exact ⟨by rw [HR.out]; rfl, (Ext.refl w).alloc _⟩
  · have hl : (limbs n).length ≤ 100000 := by unfold Lim at l; rw [← H4.out] at l; exact l
    have hlp : 0 < (limbs n).length := limbs_pos h0
    obtain ⟨b, off, rfl, hcell⟩ := h3.at_ hlp
    obtain ⟨xs, hxs⟩ : ∃ xs, xs = limbs n := ⟨_, rfl⟩
    have hdig : Dig xs := by rw [hxs]; exact dig_limbs n
    have hlast : xs.getD (xs.length - 1) 0 ≠ 0 := by rw [hxs]; exact limbs_last n (fun e => by rw [e] at hlp; simp at hlp)
    have hval : val xs = n := by rw [hxs]; exact val_limbs n
    rw [← hxs] at hl hlp hcell h1 c1 hWW h3 ⊢
    have hgr : (groups xs).dropWhile (· == 48) = Lib.decDigits n := by
      obtain ⟨L, hL⟩ : ∃ L, L + 1 = xs.length := ⟨xs.length - 1, by omega⟩
      have hsplit : xs = xs.take L ++ [xs.getD L 0] := by
        conv => lhs; rw [← List.take_append_drop L xs]
        congr 1
        rw [List.drop_eq_getElem_cons (by omega), List.getD_eq_getElem?_getD, List.getElem?_eq_getElem (by omega), List.drop_eq_nil_of_le (by omega)]
        rfl
      have ht0 : 0 < xs.getD L 0 := by have := hlast; rw [show xs.length - 1 = L by omega] at this; omega
      have ht9 : xs.getD L 0 < 1000000000 := hdig L
      have e2 := dec_limbs (xs.getD L 0) ht0 (xs.take L) (hdig.take L)
      rw [← hsplit, hval] at e2
      rw [e2]
      conv => lhs; rw [hsplit]
      rw [groups_snoc, List.dropWhile_append, pad_strip 9 _ ht0 (by omega)]
      have hne : (Lib.decDigits (xs.getD L 0)).isEmpty = false := by
        cases hd : Lib.decDigits (xs.getD L 0) with
        | nil => have := Lib.decDigits_length (xs.getD L 0); rw [hd] at this; have := Lib.nDigits_pos (xs.getD L 0); simp at *; omega
        | cons a l => rfl
      rw [hne]
      rfl
    have HG := Lib.hid hgr
    have HZ : Hid (Lib.itoa z = (if s = true then [45] else []) ++ Lib.decDigits n) := by
      unfold Hid
      have h5 := H5.out
      cases s
      · have : z = (n : Int) := h5
        subst this
        rw [Lib.itoa_nonneg]; rfl
      · have : z = -(n : Int) := h5
        subst this
        rw [Lib.itoa_neg n h0]; rfl
    have hcW : ∀ k, k < xs.length → W.cell? ⟨b, off + k, none⟩ = some (.int .u32 ((xs.getD k 0 : Nat) : Int)) := fun k hk => eW.cell (hcell k hk)
    have HC := Lib.hid hcW
    have HD : Hid (∀ k, xs.getD k 0 < 1000000000) := fun k => hdig k
    have HE := Lib.hid eW
    clear hgr hcW hcell hdig hlast hval hxs H4 H5 H6 h l h3 eW h1
    go_enter Tryz.func95, Tryz.ntmps95
    go_wp2
    go_loop [3, 4, 5, 6] (fun o i _ _ => ∃ (k : Nat) (t : ByteArray), k ≤ xs.length ∧ i = .int .i64 k ∧ o = .string t ∧ Hid (t.data.toList = groups (xs.take k))) (fun _ i _ _ => xs.length - (intOf i).toNat)
    case atStart => exact ⟨0, ⟨#[]⟩, Nat.zero_le _, rfl, rfl, rfl⟩
    case round =>
      obtain ⟨k, t, hk, rfl, rfl, HT⟩ := hrel
      by_cases hlt : k < xs.length
      · have hcx := HC.out k hlt
        obtain ⟨x, hx⟩ : ∃ x, x = xs.getD k 0 := ⟨_, rfl⟩
        have hx9 := HD.out k
        rw [← hx] at hcx hx9
        have hxI : (x : Int) ≤ 999999999 := by omega
        have HX := Lib.hid hx
        clear hx hx9
        have hltI : (k : Int) < (xs.length : Int) := by omega
        go_wp2
        go_loop [3, 5, 6] (fun o m j => ∃ (i q : Nat) (t2 : ByteArray), i ≤ 9 ∧ j = .int .i64 i ∧ m = .int .u32 q ∧ o = .string t2 ∧ (q : Int) ≤ 999999999 ∧ Hid (q = x / 10 ^ i) ∧ Hid (t2.data.toList = pad i x ++ t.data.toList)) (fun _ _ j => 9 - (intOf j).toNat)
        case atStart => exact ⟨0, x, t, by omega, rfl, rfl, rfl, hxI, by simp [Hid], rfl⟩
        case round =>
          obtain ⟨i, q, t2, hi, rfl, rfl, rfl, hq, HQ, HT2⟩ := hrel
          by_cases hi9 : i < 9
          · obtain ⟨r, hr⟩ : ∃ r, r = q % 10 := ⟨_, rfl⟩
            have hrI : (q : Int) % 10 = (r : Int) := by omega
            have hr9 : (r : Int) < 10 := by omega
            have hcv := conv_digit W r (by omega)
            have HR := Lib.hid hr
            clear hr
            have hiI : (i : Int) < 9 := by omega
            have hsz : ¬ 9223372036854775807 < 1 + t2.size := by
              have e1 := congrArg List.length HT2.out
              have e2 := congrArg List.length HT.out
              rw [bytes_len, List.length_append, pad_length, bytes_len] at e1
              rw [bytes_len, groups_length, List.length_take] at e2
              omega
            go_wp2
            go_round
            case rel =>
              refine ⟨i + 1, q / 10, _, by omega, by go_num, by go_num, rfl, by omega, ?_, ?_⟩
              · unfold Hid; rw [HQ.out, Nat.div_div_eq_div_mul, Nat.pow_succ]
              · unfold Hid
                rw [pad_front, List.cons_append, ← HT2.out, ← HQ.out, ← HR.out]
                simp
            case measure => simp [intOf]; omega
          · have e9 : i = 9 := by omega
            subst e9
            go_wp2
            go_round
            case rel =>
              refine ⟨k + 1, by omega, by go_num, ?_⟩
              unfold Hid
              rw [HT2.out, HT.out, List.take_succ_eq_append_getElem hlt, groups_snoc]
              congr 2
              rw [HX.out, List.getD_eq_getElem?_getD, List.getElem?_eq_getElem hlt]
              rfl
            case measure => simp [intOf]; omega
      · have ek : k = xs.length := by omega
        subst ek
        have HT' : Hid (t.data.toList.dropWhile (· == 48) = Lib.decDigits n) := by
          unfold Hid
          rw [HT.out, List.take_of_length_le (Nat.le_refl _), HG.out]
        have HN : Hid (Lib.decDigits n ≠ []) := by
          intro e
          have := Lib.decDigits_length n
          rw [e] at this
          have := Lib.nDigits_pos n
          simp at *
          omega
        have HSZ : Hid (t.size ≤ 1000000) := by
          unfold Hid
          have e2 := congrArg List.length HT.out
          rw [bytes_len, groups_length, List.length_take] at e2
          omega
        clear HT HG HC HD
        go_wp2
        go_loop [3] (fun o => ∃ t2 : ByteArray, o = .string t2 ∧ t2.size ≤ 1000000 ∧ Hid (t2.data.toList.dropWhile (· == 48) = Lib.decDigits n)) (fun o => match o with | .string t2 => t2.size | _ => 0)
        case atStart => exact ⟨t, rfl, HSZ.out, HT'⟩
        case round =>
          obtain ⟨t2, rfl, hsz2, HT2⟩ := hrel
          obtain ⟨c, r, hcr⟩ : ∃ c r, t2.data.toList = c :: r := by
            cases hh : t2.data.toList with
            | nil => exact absurd (by rw [← HT2.out, hh]; rfl) HN.out
            | cons c r => exact ⟨c, r, rfl⟩
          have hrl : r.length + 1 = t2.size := by rw [← bytes_len, hcr, List.length_cons]
          have hpos : 0 < t2.size := by omega
          have hc0 : t2[0] = c := by
            have : t2.data.toList[0]'(by rw [hcr]; simp) = c := by simp [hcr]
            exact this
          have HCR := Lib.hid hcr
          clear hcr
          by_cases hz : c = 48
          · have f0 : ((t2[0].toNat : Int) == 48) = true := by rw [hc0, hz]; rfl
            have HZC := Lib.hid hz
            clear hz hc0
            go_wp2
            go_round
            case rel =>
              obtain ⟨e1, e2⟩ := ba_tail HCR.out
              refine ⟨_, rfl, by omega, ?_⟩
              unfold Hid
              have e := HT2.out
              rw [HCR.out, HZC.out, List.dropWhile_cons] at e
              rw [e1]
              exact e
            case measure =>
              have e2 := (ba_tail HCR.out).2
              show (t2.extract 1 t2.size).size < t2.size
              omega
          · have f0 : ((t2[0].toNat : Int) == 48) = false := by
              rw [hc0, beq_eq_false_iff_ne]
              intro e
              exact hz (UInt8.toNat_inj.1 (by have : (48 : UInt8).toNat = 48 := rfl; omega))
            have HF : Hid (t2.data.toList = Lib.decDigits n) := by
              unfold Hid
              have e := HT2.out
              rw [HCR.out, List.dropWhile_cons, beq_eq_false_iff_ne.2 hz] at e
              rw [HCR.out]
              exact e
            clear hz hc0
            have hb : ¬ 9223372036854775807 < 1 + t2.size := by omega
            have HB := Lib.hid (ba_eq HF.out)
            cases s
            · go_wp2
              go_ret
              refine ⟨?_, HE.out⟩
              rw [HZ.out]
              show Ending.returned (Value.string t2) = _
              rw [HB.out]
              rfl
            · go_wp2
              go_ret
              refine ⟨?_, HE.out⟩
              rw [HZ.out]
              show Ending.returned (Value.string _) = _
              congr 2
              refine ba_eq ?_
              simp [HF.out]
end Go.Proofs.YtmofkmdacfdejaaGreatDoor
end

/- ---- Rgb ---- -/
section
/-
  Parse of the reference, at every string.
-/
set_option maxRecDepth 100000
namespace Go.Proofs.YtmofkmdacfdejaaGreatDoor
open Go.RowKit Go.Shelf

theorem limb_at {zs : List Nat} (h : Dig zs) (k : Nat) (hk : k < zs.length) : zs.getD k 0 = val zs / 1000000000 ^ k % 1000000000 := by
  have e1 := val_split zs k (by omega)
  have e2 := val_drop zs k hk
  have e3 : val (zs.take k) < 1000000000 ^ k := by
    have := val_lt (h.take k)
    rwa [List.length_take, Nat.min_eq_left (by omega)] at this
  have e4 := h k
  have hp : 0 < 1000000000 ^ k := Nat.pow_pos (by omega)
  rw [e1, Nat.add_mul_div_left _ _ hp, Nat.div_eq_of_lt e3, Nat.zero_add, e2]
  omega
/-- What the loop of the reference's Parse keeps: each digit in its place. -/
def ParR (w : World) (g m : Nat) (D : List UInt8) (i : Nat) (wr : World) : Prop :=
  ∃ zs : List Nat, zs.length = m ∧ Dig zs ∧ Blk wr g zs ∧ Ext w wr ∧ val zs = dv (D.take i) * 10 ^ (D.length - i)
theorem ParR.at_ {w : World} {g m : Nat} {D : List UInt8} {i : Nat} {wr : World} (h : ParR w g m D i wr) (hg : w.heap.size ≤ g) (hm : m = D.length / 9 + 1) (hi : i < D.length) (c : UInt8) (ht : D.take (i + 1) = D.take i ++ [c]) (hc : c.toNat - 48 ≤ 9) (k p : Nat) (hk : k = (D.length - 1 - i) / 9) (hp : p = (D.length - 1 - i) % 9) :
    ∃ z : Nat, z + (c.toNat - 48) * 10 ^ p < 1000000000 ∧ wr.cell? ⟨g, k, none⟩ = some (.int .u32 (z : Int)) ∧ wr.frozen? ⟨g, k, none⟩ = false ∧ k < m ∧
      Hid (∀ (nq : Nat) (V : Int), V = ((z + (c.toNat - 48) * 10 ^ p : Nat) : Int) → ParR w g m D (i + 1) ((wr.drewN nq).setCell ⟨g, k, none⟩ (.int .u32 V))) := by
  obtain ⟨zs, h1, h2, h3, h4, h5⟩ := h
  have hkm : k < zs.length := by rw [h1]; omega
  have hz := limb_at h2 k hkm
  generalize hd : c.toNat - 48 = d at *
  have hat : D.length - i = 9 * k + (p + 1) := by omega
  have hB : (1000000000 : Nat) ^ k = 10 ^ (9 * k) := by rw [Nat.pow_mul]
  have hpk : 0 < 10 ^ (9 * k) := Nat.pow_pos (by omega)
  have hX : (10 : Nat) ^ (p + 1) = 10 * 10 ^ p := by rw [Nat.pow_succ, Nat.mul_comm]
  have hXY : (1000000000 : Nat) = 10 ^ (p + 1) * 10 ^ (8 - p) := by rw [← Nat.pow_add, show p + 1 + (8 - p) = 9 by omega]
  have hzz : zs.getD k 0 = 10 ^ (p + 1) * (dv (D.take i) % 10 ^ (8 - p)) := by
    rw [hz, h5, hat, Nat.pow_add, hB, Nat.mul_left_comm, Nat.mul_div_cancel_left _ hpk, Nat.mul_comm (dv _)]
    conv => lhs; rw [hXY]
    rw [Nat.mul_mod_mul_left]
  have hbd : zs.getD k 0 + d * 10 ^ p < 1000000000 := by
    have hY : 0 < 10 ^ (8 - p) := Nat.pow_pos (by omega)
    have hq := Nat.mod_lt (dv (D.take i)) hY
    have e1 : 10 ^ (p + 1) * (dv (D.take i) % 10 ^ (8 - p) + 1) ≤ 10 ^ (p + 1) * 10 ^ (8 - p) := Nat.mul_le_mul_left _ hq
    rw [← hXY, Nat.mul_add, Nat.mul_one, ← hzz] at e1
    have e2 : d * 10 ^ p ≤ 9 * 10 ^ p := Nat.mul_le_mul_right _ hc
    have e3 : 0 < 10 ^ p := Nat.pow_pos (by omega)
    omega
  refine ⟨zs.getD k 0, hbd, h3.cell k hkm, h3.frozen k, by omega, fun nq V hV => ?_⟩
  have h3' : Blk (wr.drewN nq) g zs := h3
  refine ⟨zs.set k (zs.getD k 0 + d * 10 ^ p), by simpa using h1, h2.set k hbd, h3'.set' _ _ hkm hV, (h4.drewN nq).setCell (p := ⟨g, k, none⟩) hg _, ?_⟩
  have e := val_set zs k (zs.getD k 0 + d * 10 ^ p) hkm
  rw [ht, dv_snoc, hd]
  have e1 : 10 ^ (D.length - (i + 1)) = 10 ^ (9 * k) * 10 ^ p := by rw [← Nat.pow_add]; congr 1; omega
  have e2 : val zs = dv (D.take i) * 10 * (10 ^ (9 * k) * 10 ^ p) := by
    rw [h5, hat, Nat.pow_add, hX, Nat.mul_assoc, Nat.mul_left_comm (10 ^ (9 * k))]
  rw [e1, Nat.add_mul, ← e2]
  rw [Nat.mul_add, hB] at e
  have e3 : 10 ^ (9 * k) * (d * 10 ^ p) = d * (10 ^ (9 * k) * 10 ^ p) := by rw [Nat.mul_left_comm]
  omega
theorem negL_cons (c : UInt8) (r : List UInt8) : negL (c :: r) = (c == 45) ∧ digL (c :: r) = if c == 45 then r else c :: r := by
  unfold negL digL Lib.trimPrefix Lib.hasPrefix
  by_cases h : c = 45
  · subst h; simp
  · have : (c == 45) = false := by rw [beq_eq_false_iff_ne]; exact h
    simp [this, List.isPrefixOf]
    exact fun e => h e.symm
theorem parse_early (l : List UInt8) (h : 65536 < l.length ∨ digL l = [] ∨ (digL l).headD 0 = 48 ∧ l ≠ [48]) : parseOK l = false := by
  unfold parseOK
  rcases h with h | h | ⟨h1, h2⟩
  · rw [decide_eq_false (by omega), Bool.false_and]
  · have : numB (digL l) = false := by rw [h]; rfl
    rw [this, Bool.false_and, Bool.and_false]
  · cases hd : digL l with
    | nil => rw [hd] at h1; cases h1
    | cons c r =>
      rw [hd] at h1
      have hc : c = 48 := h1
      subst hc
      cases r with
      | cons a t =>
        have : numB (48 :: a :: t) = false := by simp [numB]
        rw [this, Bool.false_and, Bool.and_false]
      | nil =>
        have hn : negL l = true := by
          cases l with
          | nil => cases hd
          | cons x t =>
            obtain ⟨e1, e2⟩ := negL_cons x t
            rw [e1]
            cases hx : (x == 45) with
            | true => rfl
            | false =>
              rw [hx] at e2
              exact absurd (e2.symm.trans hd) h2
        rw [hn]
        simp
theorem parse_late (l : List UInt8) (h1 : l.length ≤ 65536) (h2 : digL l ≠ []) (h3 : (digL l).headD 0 = 48 → l = [48]) : parseOK l = (digL l).all digB := by
  unfold parseOK
  rw [decide_eq_true h1, Bool.true_and]
  by_cases h : (digL l).headD 0 = 48
  · rw [h3 h]
    rfl
  · cases hd : digL l with
    | nil => exact absurd hd h2
    | cons c r =>
      rw [hd] at h
      have hc : (c == 48) = false := by rw [beq_eq_false_iff_ne]; exact h
      have e1 : ((c :: r) == [48]) = false := by
        rw [beq_eq_false_iff_ne]
        intro e
        injection e with e _
        exact h e
      rw [e1, Bool.and_false]
      unfold numB
      simp only [List.headD_cons, hc, Bool.false_and, Bool.not_false, Bool.true_and, Bool.and_true, List.isEmpty_cons]
def DigAt (D : ByteArray) (k : Nat) : Prop := ∀ c : UInt8, D.data.toList[k]? = some c → digB c = true
theorem all_of (l : List UInt8) (h : ∀ (k : Nat) (c : UInt8), l[k]? = some c → digB c = true) : l.all digB = true := by
  rw [List.all_eq_true]
  intro x hx
  obtain ⟨i, hi, rfl⟩ := List.mem_iff_getElem.1 hx
  exact h i _ (List.getElem?_eq_getElem hi)

set_option maxRecDepth 100000 in
set_option maxHeartbeats 6400000 in
theorem rparse_calls (w : World) (s : ByteArray) (hs : s.size ≤ 9223372036854775807) : Calls Tryz.prog 96 #[.string s] w (RetParse s.data.toList w) := by
  obtain ⟨W, hW, eW, hz, r0, r1, f0, f1⟩ := res_new w 24
  rcases Nat.eq_zero_or_pos s.size with h0 | h0
  · have hl : s.data.toList = [] := List.eq_nil_of_length_eq_zero (by rw [bytes_len]; exact h0)
    have HB : Hid (parseOK s.data.toList = false) := by unfold Hid; rw [hl]; rfl
    have e1 : s.toList = [] := by rw [ByteArray.toList_eq, hl]
    have e2 : s.toList.isEmpty = true := by rw [e1]; rfl
    have hfin : Ext w ((W.setCell ⟨w.heap.size, 0, none⟩ (.bool false)).setCell ⟨w.heap.size, 1, none⟩ (.slice none 0 0)) := (eW.setCell (p := ⟨w.heap.size, 0, none⟩) (Nat.le_refl _) _).setCell (p := ⟨w.heap.size, 1, none⟩) (Nat.le_refl _) _
    have HF := Lib.hid hfin
    clear hl hfin hs
    go_enter Tryz.func96, Tryz.ntmps96
    go_wp2
    exact bodyPost_ret (v := .tuple #[.agg #[.bool false, .slice none 0 0], .int .i64 2]) (by simp [results, Tryz.results96, go_sem, r0, r1]) rfl ⟨_, by rw [HB.out]; rfl, by rw [HB.out]; exact isInt_zero _, HF.out⟩
  · obtain ⟨c, r, hl⟩ : ∃ c r, s.data.toList = c :: r := by
      cases hh : s.data.toList with
      | nil => have := bytes_len s; rw [hh] at this; simp at this; omega
      | cons c r => exact ⟨c, r, rfl⟩
    have hc0 : s[0] = c := by
      have : s.data.toList[0]'(by rw [hl]; simp) = c := by simp [hl]
      exact this
    have g1 : (0 : Int) < (s.size : Int) := by omega
    have hfin : Ext w ((W.setCell ⟨w.heap.size, 0, none⟩ (.bool false)).setCell ⟨w.heap.size, 1, none⟩ (.slice none 0 0)) := (eW.setCell (p := ⟨w.heap.size, 0, none⟩) (Nat.le_refl _) _).setCell (p := ⟨w.heap.size, 1, none⟩) (Nat.le_refl _) _
    have HF := Lib.hid hfin
    clear hfin hs
    by_cases hc : c = 45
    · have g0 : ((s[0].toNat : Int) == 45) = true := by rw [hc0, hc]; rfl
      obtain ⟨D, hex⟩ : ∃ D, s.extract 1 s.size = D := ⟨_, rfl⟩
      have HDL : D.data.toList = digL s.data.toList := by
        rw [← hex, (ba_tail hl).1, hl, (negL_cons c r).2, hc]
        rfl
      have HNN : negL s.data.toList = true := by rw [hl, (negL_cons c r).1, hc]; rfl
      have hDs : D.size ≤ s.size := by have := (ba_tail hl).2; rw [hex] at this; omega
      clear hc hc0 hl
      have HDl : Hid (D.data.toList = digL s.data.toList) := HDL
      have HN : Hid (negL s.data.toList = true) := HNN
      clear HDL HNN
      rcases Nat.eq_zero_or_pos D.size with d0 | d0
      · have hl : D.data.toList = [] := List.eq_nil_of_length_eq_zero (by rw [bytes_len]; exact d0)
        have HB : Hid (parseOK s.data.toList = false) := parse_early _ (.inr (.inl (by rw [← HDl.out, hl])))
        have e1 : D.toList = [] := by rw [ByteArray.toList_eq, hl]
        have e2 : D.toList.isEmpty = true := by rw [e1]; rfl
        clear hl
        go_enter Tryz.func96, Tryz.ntmps96
        go_wp2
        exact bodyPost_ret (v := .tuple #[.agg #[.bool false, .slice none 0 0], .int .i64 2]) (by simp [results, Tryz.results96, go_sem, r0, r1]) rfl ⟨_, by rw [HB.out]; rfl, by rw [HB.out]; exact isInt_zero _, HF.out⟩
      have hne : D.toList.isEmpty = false := by
        rw [ByteArray.toList_eq]
        cases hh : D.data.toList with
        | nil => have := bytes_len D; rw [hh] at this; simp at this; omega
        | cons c r => rfl
      have hne2 : (!D.toList.isEmpty) = true := by rw [hne]; rfl
      have hne3 : ¬ D.toList = [] := by intro e; rw [e] at hne; cases hne
      obtain ⟨x, r', hx⟩ : ∃ x r, D.data.toList = x :: r := by
        cases hh : D.data.toList with
        | nil => have := bytes_len D; rw [hh] at this; simp at this; omega
        | cons c r => exact ⟨c, r, rfl⟩
      have hx0 : D[0] = x := by
        have : D.data.toList[0]'(by rw [hx]; simp) = x := by simp [hx]
        exact this
      have HX := Lib.hid hx
      clear hx
      by_cases hbig : 65536 < s.size
      · have g2 : (65536 : Int) < (s.size : Int) := by omega
        have HB : Hid (parseOK s.data.toList = false) := parse_early _ (.inl (by rw [bytes_len]; exact hbig))
        clear hbig hx0
        go_enter Tryz.func96, Tryz.ntmps96
        go_wp2
        exact bodyPost_ret (v := .tuple #[.agg #[.bool false, .slice none 0 0], .int .i64 2]) (by simp [results, Tryz.results96, go_sem, r0, r1]) rfl ⟨_, by rw [HB.out]; rfl, by rw [HB.out]; exact isInt_zero _, HF.out⟩
      have g2 : ¬ (65536 : Int) < (s.size : Int) := by omega
      by_cases hear : x = 48 ∧ s.data.toList ≠ [48]
      · have f48 : ((D[0].toNat : Int) == 48) = true := by rw [hx0, hear.1]; rfl
        have HB : Hid (parseOK s.data.toList = false) := parse_early _ (.inr (.inr ⟨by rw [← HDl.out, HX.out]; exact hear.1, hear.2⟩))
        have hq : (s.toList == [48]) = false := by rw [ByteArray.toList_eq, beq_eq_false_iff_ne]; exact hear.2
        have hq2 : ¬ s.toList = [48] := by rw [ByteArray.toList_eq]; exact hear.2
        clear hear hbig hx0
        go_enter Tryz.func96, Tryz.ntmps96
        go_wp2
        exact bodyPost_ret (v := .tuple #[.agg #[.bool false, .slice none 0 0], .int .i64 2]) (by simp [results, Tryz.results96, go_sem, r0, r1]) rfl ⟨_, by rw [HB.out]; rfl, by rw [HB.out]; exact isInt_zero _, HF.out⟩
      have HP : Hid (parseOK s.data.toList = D.data.toList.all digB) := by
        refine (parse_late s.data.toList (by rw [bytes_len]; omega) (by rw [← HDl.out, HX.out]; simp) ?_).trans (congrArg (fun l => List.all l digB) HDl.out.symm)
        intro e
        rw [← HDl.out, HX.out] at e
        exact Decidable.byContradiction fun h => hear ⟨e, h⟩
      have hcase : ((D[0].toNat : Int) == 48) = false ∨ (((D[0].toNat : Int) == 48) = true ∧ (s.toList == [48]) = true ∧ s.toList = [48]) := by
        by_cases h48 : x = 48
        · refine .inr ⟨by rw [hx0, h48]; rfl, ?_⟩
          have : s.data.toList = [48] := Decidable.byContradiction fun h => hear ⟨h48, h⟩
          rw [ByteArray.toList_eq, this]
          exact ⟨rfl, rfl⟩
        · refine .inl ?_
          rw [hx0, beq_eq_false_iff_ne]
          intro e
          exact h48 (UInt8.toNat_inj.1 (by have : (48 : UInt8).toNat = 48 := rfl; omega))
      clear hear hx0
      obtain ⟨q, hqd⟩ : ∃ q, q = D.size / 9 := ⟨_, rfl⟩
      have hsb : D.size ≤ 65536 := by have := hDs; omega
      have hq1 : (D.size : Int) / 9 = (q : Int) := by omega
      have hq2 : (D.size : Int).tdiv 9 = (q : Int) := by rw [Int.tdiv_eq_ediv_of_nonneg (by omega)]; omega
      have hqb : (q : Int) ≤ 8000 := by omega
      have hmk := run_mk (q + 1) (by omega) ((q : Int) + 1) (by omega)
      have HQ := Lib.hid hqd
      have hDL := Lib.hid (bytes_len D)
      have HZ := Lib.hid hz
      have HE := Lib.hid eW
      clear hqd hbig hz eW
      rcases hcase with h48 | ⟨h48, h48', h48''⟩
      all_goals
        go_enter Tryz.func96, Tryz.ntmps96
        go_wp2_with fail
        clear hmk hq1 hq2
        have h0 : ParR W (w.heap.size + 1) (q + 1) D.data.toList 0 (W.alloc (.cells (u32s (List.replicate (q + 1) 0)) 67)) := by
          refine ⟨_, List.length_replicate .., Dig.replicate _, ?_, (Ext.refl W).alloc _, ?_⟩
          · have := Blk.new W (List.replicate (q + 1) 0)
            rwa [HZ.out] at this
          · have : ∀ n, val (List.replicate n 0) = 0 := by
              intro n; induction n with
              | zero => rfl
              | succ n ih => rw [List.replicate_succ, val, ih]
            rw [this]; simp [dv]
        have H0 := Lib.hid h0
        clear h0
        go_loopw [6, 7, 8, 9] (fun i _ _ _ wr => ∃ k : Nat, k ≤ D.size ∧ i = .int .i64 k ∧ ParR W (w.heap.size + 1) (q + 1) D.data.toList k wr ∧ Hid (((D.data.toList.take k).all digB) = true)) (fun i _ _ _ _ => D.size - (intOf i).toNat)
        case atStart => exact ⟨0, Nat.zero_le _, rfl, H0.out, rfl⟩
        case round =>
          obtain ⟨k, hk, rfl, hR, HA⟩ := hrel
          by_cases hlt : k < D.size
          · obtain ⟨t, hct⟩ : ∃ t, t = D[k] := ⟨_, rfl⟩
            have hlk : D.data.toList[k]? = some t := by rw [hct]; exact List.getElem?_eq_getElem (by rw [hDL.out]; exact hlt)
            by_cases hdg : digB t = true
            · have hdg' := hdg
              unfold digB at hdg
              rw [Bool.and_eq_true, decide_eq_true_iff, decide_eq_true_iff] at hdg
              have b1 : ¬ ((D[k].toNat : Int) < 48) := by rw [← hct]; omega
              have b2 : ¬ ((57 : Int) < (D[k].toNat : Int)) := by rw [← hct]; omega
              obtain ⟨d, hd⟩ : ∃ d, d = t.toNat - 48 := ⟨_, rfl⟩
              have hdI : (D[k].toNat : Int) - 48 = (d : Int) := by rw [← hct]; omega
              obtain ⟨a, ha⟩ : ∃ a, a = D.size - 1 - k := ⟨_, rfl⟩
              obtain ⟨kk, hkk⟩ : ∃ kk, kk = a / 9 := ⟨_, rfl⟩
              obtain ⟨p, hp⟩ : ∃ p, p = a % 9 := ⟨_, rfl⟩
              have ht := bytes_take D k hlt
              rw [← hct] at ht
              obtain ⟨z, hzb, hzc, hzf, hkm, HST⟩ := hR.at_ (by have := HZ.out; omega) (by rw [hDL.out, HQ.out]) (by rw [hDL.out]; exact hlt) t ht (by omega) kk p (by rw [hDL.out]; omega) (by rw [hDL.out]; omega)
              have eR : Ext W wr := by obtain ⟨zs, _, _, _, h, _⟩ := hR; exact h
              have hA' : Hid ((D.data.toList.take (k + 1)).all digB = true) := by
                unfold Hid
                rw [ht, List.all_append, HA.out]
                simpa using hdg'
              obtain ⟨P, hP⟩ : ∃ P, P = 10 ^ p := ⟨_, rfl⟩
              have hPb : P ≤ 100000000 := by rw [hP]; have := Nat.pow_le_pow_right (n := 10) (by omega) (show p ≤ 8 by omega); omega
              obtain ⟨e, he⟩ : ∃ e, e = d * P := ⟨_, rfl⟩
              have heb : e ≤ 9 * 100000000 := by rw [he]; exact Nat.mul_le_mul (by omega) hPb
              have heI : (d : Int) * (P : Int) = (e : Int) := by rw [he, Int.natCast_mul]
              rw [← hd, ← hP, ← he] at hzb HST
              have hz1 : (z : Int) ≤ 999999999 := by omega
              have hze : (z : Int) + (e : Int) ≤ 999999999 := by omega
              have he1 : (e : Int) ≤ 900000000 := by omega
              have hd9 : (d : Int) ≤ 9 := by omega
              have hPI : (P : Int) ≤ 100000000 := by omega
              have haI : (D.size : Int) - 1 - (k : Int) = (a : Int) := by omega
              have hk1 : (a : Int) / 9 = (kk : Int) := by omega
              have hk2 : (a : Int).tdiv 9 = (kk : Int) := by rw [Int.tdiv_eq_ediv_of_nonneg (by omega)]; omega
              have hp1 : (a : Int) % 9 = (p : Int) := by omega
              have hp2 : (a : Int).tmod 9 = (p : Int) := by rw [Int.tmod_eq_emod_of_nonneg (by omega)]; omega
              have hp8 : p ≤ 8 := by omega
              have hab : (a : Int) ≤ 65536 := by omega
              have hkI : (kk : Int) < (q : Int) + 1 := by omega
              have hltI : (k : Int) < (D.size : Int) := by omega
              have HPE := Lib.hid hP
              have hWs := HZ.out
              have HWs := Lib.hid hWs
              rw [← hWs] at hzc hzf HST
              clear hdg hdg' hd ha hkk hp ht hR HA hct hlk hP he hzb hPb heb hWs hW eR
              go_wp2
              go_loop [8, 9] (fun pw j => ∃ i Q : Nat, i ≤ p ∧ j = .int .i64 i ∧ pw = .int .u32 Q ∧ (Q : Int) ≤ 100000000 ∧ Hid (Q = 10 ^ i)) (fun _ j => p - (intOf j).toNat)
              case atStart => exact ⟨0, 1, Nat.zero_le _, rfl, rfl, by omega, rfl⟩
              case round =>
                obtain ⟨i, Q, hi, rfl, rfl, hQb, HQi⟩ := hrel
                by_cases hip : i < p
                · have hipI : (i : Int) < (p : Int) := by omega
                  have hQ10 : Hid (((Q * 10 : Nat) : Int) ≤ 100000000) := by
                    unfold Hid
                    have e1 : Q * 10 = 10 ^ (i + 1) := by rw [HQi.out, Nat.pow_succ]
                    rw [e1]
                    have := Nat.pow_le_pow_right (n := 10) (by omega) (show i + 1 ≤ 8 by omega)
                    omega
                  go_wp2
                  go_round
                  case rel =>
                    refine ⟨i + 1, Q * 10, by omega, by go_num, by go_num, hQ10.out, ?_⟩
                    unfold Hid
                    rw [HQi.out, Nat.pow_succ]
                  case measure => simp [intOf]; omega
                · have e1 : i = p := by omega
                  subst e1
                  have e2 : Q = P := by rw [HQi.out, HPE.out]
                  subst e2
                  have hst := HST.out 1
                  have hzc' : (wr.drew).cell? ⟨W.heap.size, kk, none⟩ = some (.int .u32 (z : Int)) := hzc
                  have hzf' : (wr.drew).frozen? ⟨W.heap.size, kk, none⟩ = false := hzf
                  have hst' : ∀ V : Int, V = ((z + e : Nat) : Int) → ParR W W.heap.size (q + 1) D.data.toList (k + 1) ((wr.drew).setCell ⟨W.heap.size, kk, none⟩ (.int .u32 V)) := hst
                  have HST2 := Lib.hid hst'
                  clear hst hst' HST hzc hzf
                  have w1 : IntKind.i64.wrap (kk : Int) = (kk : Int) := IntWalk.i64_in _ (by omega)
                  have w2 : IntKind.i64.wrap ((a : Int).tdiv 9) = (kk : Int) := by rw [hk2]; exact w1
                  have w2' : IntKind.i64.wrap ((a : Int) / 9) = (kk : Int) := by rw [hk1]; exact w1
                  have w3 : IntKind.u8.wrap (d : Int) = (d : Int) := IntWalk.u8_in _ (by omega)
                  have w4 : IntKind.u8.wrap ((D[k].toNat : Int) - 48) = (d : Int) := by rw [hdI]; exact w3
                  have w5 : IntKind.u32.wrap (d : Int) = (d : Int) := IntWalk.u32_in _ (by omega)
                  have w6 : IntKind.u32.wrap (e : Int) = (e : Int) := IntWalk.u32_in _ (by omega)
                  have w7 : IntKind.u32.wrap ((d : Int) * (Q : Int)) = (e : Int) := by rw [heI]; exact w6
                  have w8 : IntKind.u32.wrap ((z : Int) + (e : Int)) = (z : Int) + (e : Int) := IntWalk.u32_in _ (by omega)
                  have w9 : 0 ≤ (kk : Int) := by omega
                  go_wp2
                  go_still_tail 17, (by kernel_rfl)
                  change wpList _ _ _ _ _ wr.drew
                  generalize wr.drew = w2 at *
                  go_wp2
                  go_roundw
                  case rel => exact ⟨k + 1, by omega, by go_num, by rw [← HWs.out]; exact HST2.out _ (by omega), hA'⟩
                  case measure => simp [intOf]; omega
            · have HB : Hid (parseOK s.data.toList = false) := by
                unfold Hid
                rw [HP.out, Bool.eq_false_iff]
                intro e
                exact hdg (List.all_eq_true.1 e t (List.mem_of_getElem? hlk))
              have hcs : ((D[k].toNat : Int) < 48) ∨ (¬ ((D[k].toNat : Int) < 48) ∧ (57 : Int) < (D[k].toNat : Int)) := by
                rw [← hct]
                unfold digB at hdg
                simp only [Bool.and_eq_true, decide_eq_true_iff] at hdg
                omega
              have eR : Ext W wr := by obtain ⟨zs, _, _, _, h, _⟩ := hR; exact h
              have hWs := HZ.out
              have r0' := eR.cell r0
              have r1' := eR.cell r1
              have f0' := eR.frozen (p := ⟨w.heap.size, 0, none⟩) (by show w.heap.size < W.heap.size; omega) f0
              have f1' := eR.frozen (p := ⟨w.heap.size, 1, none⟩) (by show w.heap.size < W.heap.size; omega) f1
              have hfin : Ext w ((wr.setCell ⟨w.heap.size, 0, none⟩ (.bool false)).setCell ⟨w.heap.size, 1, none⟩ (.slice none 0 0)) := ((HE.out.trans eR).setCell (p := ⟨w.heap.size, 0, none⟩) (Nat.le_refl _) _).setCell (p := ⟨w.heap.size, 1, none⟩) (Nat.le_refl _) _
              have HF := Lib.hid hfin
              have hltI : (k : Int) < (D.size : Int) := by omega
              clear hfin hWs hdg hct hlk hR HA r0 r1 f0 f1 hW eR
              rcases hcs with hc1 | ⟨hc1, hc2⟩
              · go_wp2
                exact bodyPost_ret (v := .tuple #[.agg #[.bool false, .slice none 0 0], .int .i64 2]) (by simp [results, Tryz.results96, go_sem, r0', r1']) rfl ⟨_, by rw [HB.out]; rfl, by rw [HB.out]; exact isInt_zero _, HF.out⟩
              · go_wp2
                exact bodyPost_ret (v := .tuple #[.agg #[.bool false, .slice none 0 0], .int .i64 2]) (by simp [results, Tryz.results96, go_sem, r0', r1']) rfl ⟨_, by rw [HB.out]; rfl, by rw [HB.out]; exact isInt_zero _, HF.out⟩
          · have e : k = D.size := by omega
            subst e
            have hall : D.data.toList.all digB = true := by have := HA.out; rwa [bytes_all] at this
            have HB : Hid (parseOK s.data.toList = true) := by unfold Hid; rw [HP.out]; exact hall
            obtain ⟨zs, h1, h2, h3, eR, h5⟩ := hR
            have HZV : Hid (val zs = dv D.data.toList) := by
              unfold Hid
              rw [h5, bytes_all, hDL.out, Nat.sub_self, Nat.pow_zero, Nat.mul_one]
            have HV : Hid (parseV s.data.toList = sgn true (val zs)) := by
              unfold Hid parseV
              rw [HN.out, HZV.out]
              exact congrArg (fun l => sgn true (dv l)) HDl.out.symm
            have hWs := HZ.out
            have hsg : Calls Tryz.prog 86 #[.bool true, .slice (some ⟨W.heap.size, 0, none⟩) (q + 1) (q + 1)] wr (Ret (fun v w' => IsInt w' v (sgn true (val zs))) wr) := by
              have := rsigned_calls wr true (some ⟨w.heap.size + 1, 0, none⟩) zs (q + 1) (by omega) (by omega) h3.cells h2
              rwa [h1, ← hWs] at this
            have HSG := Lib.hid hsg
            have r0' := eR.cell r0
            have r1' := eR.cell r1
            have f0' := eR.frozen (p := ⟨w.heap.size, 0, none⟩) (by show w.heap.size < W.heap.size; omega) f0
            have f1' := eR.frozen (p := ⟨w.heap.size, 1, none⟩) (by show w.heap.size < W.heap.size; omega) f1
            have HEE := Lib.hid (HE.out.trans eR)
            clear hsg h1 h2 h3 h5 hall HA hWs r0 r1 f0 f1 hW eR
            go_wp2_with fail
            refine HSG.out.mono ?_
            rintro e' w1 ⟨v3, rfl, hI, e3⟩
            obtain ⟨ao3, cap3, s3, n3, rfl, _⟩ := IsInt.open_ hI
            replace f0' := e3.frozen (lt_of_cell r0') f0'
            replace f1' := e3.frozen (lt_of_cell r1') f1'
            replace r0' := e3.cell r0'
            replace r1' := e3.cell r1'
            go_wp2
            obtain ⟨u, hu, hu2, hu3⟩ := fin_int hI r0' r1' (Nat.le_refl _) (HEE.out.trans e3)
            injection hu with hu
            subst hu
            exact bodyPost_ret (v := .tuple #[.agg #[.bool s3, .slice ao3 (limbs n3).length cap3], .int .i64 0]) (by simp [results, Tryz.results96, go_sem, r0', r1']) rfl ⟨_, by rw [HB.out]; rfl, by rw [HB.out, if_pos rfl, HV.out]; exact hu2, hu3⟩
    · have g0 : ((s[0].toNat : Int) == 45) = false := by
        rw [hc0, beq_eq_false_iff_ne]
        intro e
        exact hc (UInt8.toNat_inj.1 (by have : (45 : UInt8).toNat = 45 := rfl; omega))
      have hc' : (c == 45) = false := by rw [beq_eq_false_iff_ne]; exact hc
      have HDL : s.data.toList = digL s.data.toList := by
        rw [hl, (negL_cons c r).2, hc']
        rfl
      have HNN : negL s.data.toList = false := by rw [hl, (negL_cons c r).1, hc']
      clear hc hc0 hl hc'
      have HDl : Hid (s.data.toList = digL s.data.toList) := HDL
      have HN : Hid (negL s.data.toList = false) := HNN
      clear HDL HNN
      rcases Nat.eq_zero_or_pos s.size with d0 | d0
      · exfalso; omega
      have hne : s.toList.isEmpty = false := by
        rw [ByteArray.toList_eq]
        cases hh : s.data.toList with
        | nil => have := bytes_len s; rw [hh] at this; simp at this; omega
        | cons c r => rfl
      have hne2 : (!s.toList.isEmpty) = true := by rw [hne]; rfl
      have hne3 : ¬ s.toList = [] := by intro e; rw [e] at hne; cases hne
      obtain ⟨x, r', hx⟩ : ∃ x r, s.data.toList = x :: r := by
        cases hh : s.data.toList with
        | nil => have := bytes_len s; rw [hh] at this; simp at this; omega
        | cons c r => exact ⟨c, r, rfl⟩
      have hx0 : s[0] = x := by
        have : s.data.toList[0]'(by rw [hx]; simp) = x := by simp [hx]
        exact this
      have HX := Lib.hid hx
      clear hx
      by_cases hbig : 65536 < s.size
      · have g2 : (65536 : Int) < (s.size : Int) := by omega
        have HB : Hid (parseOK s.data.toList = false) := parse_early _ (.inl (by rw [bytes_len]; exact hbig))
        clear hbig hx0
        go_enter Tryz.func96, Tryz.ntmps96
        go_wp2
        exact bodyPost_ret (v := .tuple #[.agg #[.bool false, .slice none 0 0], .int .i64 2]) (by simp [results, Tryz.results96, go_sem, r0, r1]) rfl ⟨_, by rw [HB.out]; rfl, by rw [HB.out]; exact isInt_zero _, HF.out⟩
      have g2 : ¬ (65536 : Int) < (s.size : Int) := by omega
      by_cases hear : x = 48 ∧ s.data.toList ≠ [48]
      · have f48 : ((s[0].toNat : Int) == 48) = true := by rw [hx0, hear.1]; rfl
        have HB : Hid (parseOK s.data.toList = false) := parse_early _ (.inr (.inr ⟨by rw [← HDl.out, HX.out]; exact hear.1, hear.2⟩))
        have hq : (s.toList == [48]) = false := by rw [ByteArray.toList_eq, beq_eq_false_iff_ne]; exact hear.2
        have hq2 : ¬ s.toList = [48] := by rw [ByteArray.toList_eq]; exact hear.2
        clear hear hbig hx0
        go_enter Tryz.func96, Tryz.ntmps96
        go_wp2
        exact bodyPost_ret (v := .tuple #[.agg #[.bool false, .slice none 0 0], .int .i64 2]) (by simp [results, Tryz.results96, go_sem, r0, r1]) rfl ⟨_, by rw [HB.out]; rfl, by rw [HB.out]; exact isInt_zero _, HF.out⟩
      have HP : Hid (parseOK s.data.toList = s.data.toList.all digB) := by
        refine (parse_late s.data.toList (by rw [bytes_len]; omega) (by rw [← HDl.out, HX.out]; simp) ?_).trans (congrArg (fun l => List.all l digB) HDl.out.symm)
        intro e
        rw [← HDl.out, HX.out] at e
        exact Decidable.byContradiction fun h => hear ⟨e, h⟩
      have hcase : ((s[0].toNat : Int) == 48) = false ∨ (((s[0].toNat : Int) == 48) = true ∧ (s.toList == [48]) = true ∧ s.toList = [48]) := by
        by_cases h48 : x = 48
        · refine .inr ⟨by rw [hx0, h48]; rfl, ?_⟩
          have : s.data.toList = [48] := Decidable.byContradiction fun h => hear ⟨h48, h⟩
          rw [ByteArray.toList_eq, this]
          exact ⟨rfl, rfl⟩
        · refine .inl ?_
          rw [hx0, beq_eq_false_iff_ne]
          intro e
          exact h48 (UInt8.toNat_inj.1 (by have : (48 : UInt8).toNat = 48 := rfl; omega))
      clear hear hx0
      obtain ⟨q, hqd⟩ : ∃ q, q = s.size / 9 := ⟨_, rfl⟩
      have hsb : s.size ≤ 65536 := by omega
      have hq1 : (s.size : Int) / 9 = (q : Int) := by omega
      have hq2 : (s.size : Int).tdiv 9 = (q : Int) := by rw [Int.tdiv_eq_ediv_of_nonneg (by omega)]; omega
      have hqb : (q : Int) ≤ 8000 := by omega
      have hmk := run_mk (q + 1) (by omega) ((q : Int) + 1) (by omega)
      have HQ := Lib.hid hqd
      have hDL := Lib.hid (bytes_len s)
      have HZ := Lib.hid hz
      have HE := Lib.hid eW
      clear hqd hbig hz eW
      rcases hcase with h48 | ⟨h48, h48', h48''⟩
      all_goals
        go_enter Tryz.func96, Tryz.ntmps96
        go_wp2_with fail
        clear hmk hq1 hq2
        have h0 : ParR W (w.heap.size + 1) (q + 1) s.data.toList 0 (W.alloc (.cells (u32s (List.replicate (q + 1) 0)) 67)) := by
          refine ⟨_, List.length_replicate .., Dig.replicate _, ?_, (Ext.refl W).alloc _, ?_⟩
          · have := Blk.new W (List.replicate (q + 1) 0)
            rwa [HZ.out] at this
          · have : ∀ n, val (List.replicate n 0) = 0 := by
              intro n; induction n with
              | zero => rfl
              | succ n ih => rw [List.replicate_succ, val, ih]
            rw [this]; simp [dv]
        have H0 := Lib.hid h0
        clear h0
        go_loopw [6, 7, 8, 9] (fun i _ _ _ wr => ∃ k : Nat, k ≤ s.size ∧ i = .int .i64 k ∧ ParR W (w.heap.size + 1) (q + 1) s.data.toList k wr ∧ Hid (((s.data.toList.take k).all digB) = true)) (fun i _ _ _ _ => s.size - (intOf i).toNat)
        case atStart => exact ⟨0, Nat.zero_le _, rfl, H0.out, rfl⟩
        case round =>
          obtain ⟨k, hk, rfl, hR, HA⟩ := hrel
          by_cases hlt : k < s.size
          · obtain ⟨t, hct⟩ : ∃ t, t = s[k] := ⟨_, rfl⟩
            have hlk : s.data.toList[k]? = some t := by rw [hct]; exact List.getElem?_eq_getElem (by rw [hDL.out]; exact hlt)
            by_cases hdg : digB t = true
            · have hdg' := hdg
              unfold digB at hdg
              rw [Bool.and_eq_true, decide_eq_true_iff, decide_eq_true_iff] at hdg
              have b1 : ¬ ((s[k].toNat : Int) < 48) := by rw [← hct]; omega
              have b2 : ¬ ((57 : Int) < (s[k].toNat : Int)) := by rw [← hct]; omega
              obtain ⟨d, hd⟩ : ∃ d, d = t.toNat - 48 := ⟨_, rfl⟩
              have hdI : (s[k].toNat : Int) - 48 = (d : Int) := by rw [← hct]; omega
              obtain ⟨a, ha⟩ : ∃ a, a = s.size - 1 - k := ⟨_, rfl⟩
              obtain ⟨kk, hkk⟩ : ∃ kk, kk = a / 9 := ⟨_, rfl⟩
              obtain ⟨p, hp⟩ : ∃ p, p = a % 9 := ⟨_, rfl⟩
              have ht := bytes_take s k hlt
              rw [← hct] at ht
              obtain ⟨z, hzb, hzc, hzf, hkm, HST⟩ := hR.at_ (by have := HZ.out; omega) (by rw [hDL.out, HQ.out]) (by rw [hDL.out]; exact hlt) t ht (by omega) kk p (by rw [hDL.out]; omega) (by rw [hDL.out]; omega)
              have eR : Ext W wr := by obtain ⟨zs, _, _, _, h, _⟩ := hR; exact h
              have hA' : Hid ((s.data.toList.take (k + 1)).all digB = true) := by
                unfold Hid
                rw [ht, List.all_append, HA.out]
                simpa using hdg'
              obtain ⟨P, hP⟩ : ∃ P, P = 10 ^ p := ⟨_, rfl⟩
              have hPb : P ≤ 100000000 := by rw [hP]; have := Nat.pow_le_pow_right (n := 10) (by omega) (show p ≤ 8 by omega); omega
              obtain ⟨e, he⟩ : ∃ e, e = d * P := ⟨_, rfl⟩
              have heb : e ≤ 9 * 100000000 := by rw [he]; exact Nat.mul_le_mul (by omega) hPb
              have heI : (d : Int) * (P : Int) = (e : Int) := by rw [he, Int.natCast_mul]
              rw [← hd, ← hP, ← he] at hzb HST
              have hz1 : (z : Int) ≤ 999999999 := by omega
              have hze : (z : Int) + (e : Int) ≤ 999999999 := by omega
              have he1 : (e : Int) ≤ 900000000 := by omega
              have hd9 : (d : Int) ≤ 9 := by omega
              have hPI : (P : Int) ≤ 100000000 := by omega
              have haI : (s.size : Int) - 1 - (k : Int) = (a : Int) := by omega
              have hk1 : (a : Int) / 9 = (kk : Int) := by omega
              have hk2 : (a : Int).tdiv 9 = (kk : Int) := by rw [Int.tdiv_eq_ediv_of_nonneg (by omega)]; omega
              have hp1 : (a : Int) % 9 = (p : Int) := by omega
              have hp2 : (a : Int).tmod 9 = (p : Int) := by rw [Int.tmod_eq_emod_of_nonneg (by omega)]; omega
              have hp8 : p ≤ 8 := by omega
              have hab : (a : Int) ≤ 65536 := by omega
              have hkI : (kk : Int) < (q : Int) + 1 := by omega
              have hltI : (k : Int) < (s.size : Int) := by omega
              have HPE := Lib.hid hP
              have hWs := HZ.out
              have HWs := Lib.hid hWs
              rw [← hWs] at hzc hzf HST
              clear hdg hdg' hd ha hkk hp ht hR HA hct hlk hP he hzb hPb heb hWs hW eR
              go_wp2
              go_loop [8, 9] (fun pw j => ∃ i Q : Nat, i ≤ p ∧ j = .int .i64 i ∧ pw = .int .u32 Q ∧ (Q : Int) ≤ 100000000 ∧ Hid (Q = 10 ^ i)) (fun _ j => p - (intOf j).toNat)
              case atStart => exact ⟨0, 1, Nat.zero_le _, rfl, rfl, by omega, rfl⟩
              case round =>
                obtain ⟨i, Q, hi, rfl, rfl, hQb, HQi⟩ := hrel
                by_cases hip : i < p
                · have hipI : (i : Int) < (p : Int) := by omega
                  have hQ10 : Hid (((Q * 10 : Nat) : Int) ≤ 100000000) := by
                    unfold Hid
                    have e1 : Q * 10 = 10 ^ (i + 1) := by rw [HQi.out, Nat.pow_succ]
                    rw [e1]
                    have := Nat.pow_le_pow_right (n := 10) (by omega) (show i + 1 ≤ 8 by omega)
                    omega
                  go_wp2
                  go_round
                  case rel =>
                    refine ⟨i + 1, Q * 10, by omega, by go_num, by go_num, hQ10.out, ?_⟩
                    unfold Hid
                    rw [HQi.out, Nat.pow_succ]
                  case measure => simp [intOf]; omega
                · have e1 : i = p := by omega
                  subst e1
                  have e2 : Q = P := by rw [HQi.out, HPE.out]
                  subst e2
                  have hst := HST.out 1
                  have hzc' : (wr.drew).cell? ⟨W.heap.size, kk, none⟩ = some (.int .u32 (z : Int)) := hzc
                  have hzf' : (wr.drew).frozen? ⟨W.heap.size, kk, none⟩ = false := hzf
                  have hst' : ∀ V : Int, V = ((z + e : Nat) : Int) → ParR W W.heap.size (q + 1) s.data.toList (k + 1) ((wr.drew).setCell ⟨W.heap.size, kk, none⟩ (.int .u32 V)) := hst
                  have HST2 := Lib.hid hst'
                  clear hst hst' HST hzc hzf
                  have w1 : IntKind.i64.wrap (kk : Int) = (kk : Int) := IntWalk.i64_in _ (by omega)
                  have w2 : IntKind.i64.wrap ((a : Int).tdiv 9) = (kk : Int) := by rw [hk2]; exact w1
                  have w2' : IntKind.i64.wrap ((a : Int) / 9) = (kk : Int) := by rw [hk1]; exact w1
                  have w3 : IntKind.u8.wrap (d : Int) = (d : Int) := IntWalk.u8_in _ (by omega)
                  have w4 : IntKind.u8.wrap ((s[k].toNat : Int) - 48) = (d : Int) := by rw [hdI]; exact w3
                  have w5 : IntKind.u32.wrap (d : Int) = (d : Int) := IntWalk.u32_in _ (by omega)
                  have w6 : IntKind.u32.wrap (e : Int) = (e : Int) := IntWalk.u32_in _ (by omega)
                  have w7 : IntKind.u32.wrap ((d : Int) * (Q : Int)) = (e : Int) := by rw [heI]; exact w6
                  have w8 : IntKind.u32.wrap ((z : Int) + (e : Int)) = (z : Int) + (e : Int) := IntWalk.u32_in _ (by omega)
                  have w9 : 0 ≤ (kk : Int) := by omega
                  go_wp2
                  go_still_tail 17, (by kernel_rfl)
                  change wpList _ _ _ _ _ wr.drew
                  generalize wr.drew = w2 at *
                  go_wp2
                  go_roundw
                  case rel => exact ⟨k + 1, by omega, by go_num, by rw [← HWs.out]; exact HST2.out _ (by omega), hA'⟩
                  case measure => simp [intOf]; omega
            · have HB : Hid (parseOK s.data.toList = false) := by
                unfold Hid
                rw [HP.out, Bool.eq_false_iff]
                intro e
                exact hdg (List.all_eq_true.1 e t (List.mem_of_getElem? hlk))
              have hcs : ((s[k].toNat : Int) < 48) ∨ (¬ ((s[k].toNat : Int) < 48) ∧ (57 : Int) < (s[k].toNat : Int)) := by
                rw [← hct]
                unfold digB at hdg
                simp only [Bool.and_eq_true, decide_eq_true_iff] at hdg
                omega
              have eR : Ext W wr := by obtain ⟨zs, _, _, _, h, _⟩ := hR; exact h
              have hWs := HZ.out
              have r0' := eR.cell r0
              have r1' := eR.cell r1
              have f0' := eR.frozen (p := ⟨w.heap.size, 0, none⟩) (by show w.heap.size < W.heap.size; omega) f0
              have f1' := eR.frozen (p := ⟨w.heap.size, 1, none⟩) (by show w.heap.size < W.heap.size; omega) f1
              have hfin : Ext w ((wr.setCell ⟨w.heap.size, 0, none⟩ (.bool false)).setCell ⟨w.heap.size, 1, none⟩ (.slice none 0 0)) := ((HE.out.trans eR).setCell (p := ⟨w.heap.size, 0, none⟩) (Nat.le_refl _) _).setCell (p := ⟨w.heap.size, 1, none⟩) (Nat.le_refl _) _
              have HF := Lib.hid hfin
              have hltI : (k : Int) < (s.size : Int) := by omega
              clear hfin hWs hdg hct hlk hR HA r0 r1 f0 f1 hW eR
              rcases hcs with hc1 | ⟨hc1, hc2⟩
              · go_wp2
                exact bodyPost_ret (v := .tuple #[.agg #[.bool false, .slice none 0 0], .int .i64 2]) (by simp [results, Tryz.results96, go_sem, r0', r1']) rfl ⟨_, by rw [HB.out]; rfl, by rw [HB.out]; exact isInt_zero _, HF.out⟩
              · go_wp2
                exact bodyPost_ret (v := .tuple #[.agg #[.bool false, .slice none 0 0], .int .i64 2]) (by simp [results, Tryz.results96, go_sem, r0', r1']) rfl ⟨_, by rw [HB.out]; rfl, by rw [HB.out]; exact isInt_zero _, HF.out⟩
          · have e : k = s.size := by omega
            subst e
            have hall : s.data.toList.all digB = true := by have := HA.out; rwa [bytes_all] at this
            have HB : Hid (parseOK s.data.toList = true) := by unfold Hid; rw [HP.out]; exact hall
            obtain ⟨zs, h1, h2, h3, eR, h5⟩ := hR
            have HZV : Hid (val zs = dv s.data.toList) := by
              unfold Hid
              rw [h5, bytes_all, hDL.out, Nat.sub_self, Nat.pow_zero, Nat.mul_one]
            have HV : Hid (parseV s.data.toList = sgn false (val zs)) := by
              unfold Hid parseV
              rw [HN.out, HZV.out]
              exact congrArg (fun l => sgn false (dv l)) HDl.out.symm
            have hWs := HZ.out
            have hsg : Calls Tryz.prog 86 #[.bool false, .slice (some ⟨W.heap.size, 0, none⟩) (q + 1) (q + 1)] wr (Ret (fun v w' => IsInt w' v (sgn false (val zs))) wr) := by
              have := rsigned_calls wr false (some ⟨w.heap.size + 1, 0, none⟩) zs (q + 1) (by omega) (by omega) h3.cells h2
              rwa [h1, ← hWs] at this
            have HSG := Lib.hid hsg
            have r0' := eR.cell r0
            have r1' := eR.cell r1
            have f0' := eR.frozen (p := ⟨w.heap.size, 0, none⟩) (by show w.heap.size < W.heap.size; omega) f0
            have f1' := eR.frozen (p := ⟨w.heap.size, 1, none⟩) (by show w.heap.size < W.heap.size; omega) f1
            have HEE := Lib.hid (HE.out.trans eR)
            clear hsg h1 h2 h3 h5 hall HA hWs r0 r1 f0 f1 hW eR
            go_wp2_with fail
            refine HSG.out.mono ?_
            rintro e' w1 ⟨v3, rfl, hI, e3⟩
            obtain ⟨ao3, cap3, s3, n3, rfl, _⟩ := IsInt.open_ hI
            replace f0' := e3.frozen (lt_of_cell r0') f0'
            replace f1' := e3.frozen (lt_of_cell r1') f1'
            replace r0' := e3.cell r0'
            replace r1' := e3.cell r1'
            go_wp2
            obtain ⟨u, hu, hu2, hu3⟩ := fin_int hI r0' r1' (Nat.le_refl _) (HEE.out.trans e3)
            injection hu with hu
            subst hu
            exact bodyPost_ret (v := .tuple #[.agg #[.bool s3, .slice ao3 (limbs n3).length cap3], .int .i64 0]) (by simp [results, Tryz.results96, go_sem, r0', r1']) rfl ⟨_, by rw [HB.out]; rfl, by rw [HB.out, if_pos rfl, HV.out]; exact hu2, hu3⟩
end Go.Proofs.YtmofkmdacfdejaaGreatDoor
end

/- ---- Itoa ---- -/
section
/-
  The decimal text of an integer is read as that integer.
-/
set_option maxRecDepth 100000
namespace Go.Proofs.YtmofkmdacfdejaaGreatDoor
open Go.RowKit

theorem dec_spec : ∀ (k n : Nat), n < 10 ^ k → (Lib.decDigits n).all digB = true ∧ dv (Lib.decDigits n) = n ∧ ((Lib.decDigits n).headD 0 = 48 → n = 0) ∧ (Lib.decDigits n).headD 0 ≠ 45 ∧ Lib.decDigits n ≠ [] := by
  have base : ∀ n, n < 10 → (Lib.decDigits n).all digB = true ∧ dv (Lib.decDigits n) = n ∧ ((Lib.decDigits n).headD 0 = 48 → n = 0) ∧ (Lib.decDigits n).headD 0 ≠ 45 ∧ Lib.decDigits n ≠ [] := by
    intro n h
    rw [Lib.decDigits_one h]
    match n, h with
    | 0, _ | 1, _ | 2, _ | 3, _ | 4, _ | 5, _ | 6, _ | 7, _ | 8, _ | 9, _ => exact ⟨by decide, by decide, by decide, by decide, by decide⟩
    | n + 10, h => omega
  intro k
  induction k with
  | zero => intro n h; exact base n (by simp at h; omega)
  | succ k ih =>
    intro n h
    by_cases h10 : n < 10
    · exact base n h10
    · obtain ⟨i1, i2, i3, i4, i5⟩ := ih (n / 10) (by rw [Nat.pow_succ] at h; omega)
      have hd : (UInt8.ofNat (48 + n % 10)).toNat = 48 + n % 10 := by rw [UInt8.toNat_ofNat']; omega
      rw [Lib.decDigits, dif_neg h10]
      cases hl : Lib.decDigits (n / 10) with
      | nil => exact absurd hl i5
      | cons c r =>
        rw [hl] at i1 i2 i3 i4
        refine ⟨?_, ?_, ?_, ?_, by simp⟩
        · rw [List.all_append, i1]
          simp only [List.all_cons, List.all_nil, Bool.and_true, Bool.true_and]
          unfold digB
          rw [hd, decide_eq_true (by omega), decide_eq_true (by omega)]
          rfl
        · rw [dv_snoc, i2, hd]; omega
        · intro e
          have := i3 e
          omega
        · exact i4
theorem parse_itoa (z : Int) (h : (Lib.itoa z).length ≤ 65536) : parseOK (Lib.itoa z) = true ∧ parseV (Lib.itoa z) = z := by
  have key : ∀ n : Nat, (Lib.decDigits n).all digB = true ∧ dv (Lib.decDigits n) = n ∧ ((Lib.decDigits n).headD 0 = 48 → n = 0) ∧ (Lib.decDigits n).headD 0 ≠ 45 ∧ Lib.decDigits n ≠ [] := fun n => dec_spec (n + 1) n (by
    have := Nat.lt_pow_self (n := n) (show 1 < 10 by omega)
    rw [Nat.pow_succ]; omega)
  by_cases hz : z < 0
  · obtain ⟨n, rfl⟩ : ∃ n : Nat, z = -(n : Int) := ⟨z.natAbs, by omega⟩
    have hn : 0 < n := by omega
    obtain ⟨k1, k2, k3, k4, k5⟩ := key n
    have e := Lib.itoa_neg n hn
    rw [e] at h ⊢
    obtain ⟨e1, e2⟩ := negL_cons 45 (Lib.decDigits n)
    have e1' : negL (45 :: Lib.decDigits n) = true := e1
    have e2' : digL (45 :: Lib.decDigits n) = Lib.decDigits n := e2
    refine ⟨?_, ?_⟩
    · rw [parse_late _ h (by rw [e2']; exact k5) (by rw [e2']; intro x; have := k3 x; omega), e2']
      exact k1
    · unfold parseV
      rw [e1', e2', k2]; rfl
  · obtain ⟨n, rfl⟩ : ∃ n : Nat, z = (n : Int) := ⟨z.natAbs, by omega⟩
    obtain ⟨k1, k2, k3, k4, k5⟩ := key n
    have e := Lib.itoa_nonneg n
    rw [e] at h ⊢
    cases hl : Lib.decDigits n with
    | nil => exact absurd hl k5
    | cons c r =>
      rw [hl] at h k1 k2 k3 k4
      have hc : (c == 45) = false := by rw [beq_eq_false_iff_ne]; exact k4
      obtain ⟨e1, e2⟩ := negL_cons c r
      rw [hc] at e1 e2
      have e2' : digL (c :: r) = c :: r := e2
      refine ⟨?_, ?_⟩
      · rw [parse_late _ h (by rw [e2']; simp) (by
          rw [e2']
          intro x
          have h0 := k3 x
          subst h0
          rw [← hl]
          exact Lib.decDigits_one (by omega)), e2']
        exact k1
      · unfold parseV
        rw [e1, e2', k2]; rfl
theorem nDigits_leT : ∀ (k u : Nat), u < 10 ^ (k + 1) → Lib.nDigits u ≤ k + 1
  | 0, u, h => by rw [Lib.nDigits_small (by simpa using h)]; exact Nat.le_refl _
  | k + 1, u, h => by
    by_cases h1 : u < 10
    · rw [Lib.nDigits_small h1]; omega
    · rw [Lib.nDigits_big h1]
      have := nDigits_leT k (u / 10) (by rw [Nat.pow_succ] at h; omega)
      omega
theorem itoa_lenT {l : Nat} {z : Int} (h : Lim l z) : (Lib.itoa z).length ≤ 9 * l + 2 := by
  have h1 := lt_of_limbs_len h
  have h2 : (Lib.decDigits z.natAbs).length ≤ 9 * l + 1 := by
    rw [Lib.decDigits_length]
    refine nDigits_leT (9 * l) _ (Nat.lt_of_lt_of_le h1 ?_)
    rw [show (1000000000 : Nat) = 10 ^ 9 from rfl, ← Nat.pow_mul]
    exact Nat.pow_le_pow_right (by omega) (by omega)
  unfold Lib.itoa
  split
  · simp only [List.length_cons]; omega
  · rename_i hz
    rw [show z.toNat = z.natAbs by omega]; omega
end Go.Proofs.YtmofkmdacfdejaaGreatDoor
end

/- ---- Rfa ---- -/
section
/-
  Sign and Cmp of the reference; small on rows of one and of three; what the laws of one and of three numbers share.
-/
set_option maxRecDepth 100000
namespace Go.Proofs.YtmofkmdacfdejaaGreatDoor
open Go.RowKit

theorem rsign_rat_calls (w : World) (v1 : Value) (n d : Int) (h1 : IsPair w v1 n d) (l1 : Lim 100000 n) (l1' : Lim 100000 d) : Calls Tryz.prog 35 #[v1] w fun e w' => e = .returned (.int .i64 (cmpZ n 0)) ∧ Ext w w' := by
  refine (fun_sound (E := zE [n, d]) (args := [argQ 0]) (T := .leaf [(false, [.n .i64 (.a2 3 (.var 0) (.lit 0))])])
    mixed (cfg_ok (.cons (kIn_ok (f := 63) (g := fun x => .a2 3 x (.lit 0)) (fun x => cmpZ x 0) (fun _ => rfl) (fun w v z h => rsign_calls w v z h) ⟨_, Tryz.func63, by decide +kernel, by kernel_rfl⟩) .nil))
    no_asm Tryz.func35 (by decide +kernel) (by kernel_rfl) (by decide +kernel) rfl w [v1] rfl ?_).mono ?_
  · intro i x hx
    match i, hx with
    | 0, hx => injection hx with hx; subst hx; exact ⟨fun _ => 0, v1, rfl, argP_holds h1 l1 l1' rfl rfl⟩
  · rintro e w' ⟨β, v, rfl, hh, ex⟩
    have := one_num.1 hh
    subst this
    exact ⟨rfl, ex⟩
theorem kSgF_ok {E : Env} {f : Nat} (hc : ∀ (w : World) (v1 : Value) (n d : Int), IsPair w v1 n d → Lim 100000 n → Lim 100000 d → Calls Tryz.prog f #[v1] w fun e w' => e = .returned (.int .i64 (cmpZ n 0)) ∧ Ext w w')
    (hb : ∃ fn, Tryz.prog.funcs[f]? = some fn ∧ fn.name ≠ "runtime.NumGoroutine" ∧ fn.body.isNone = false) : ConOK Tryz.prog E f kSg := by
  refine ⟨?_, ?_, hb⟩
  · intro args As r h hG β w vs hv hlen
    unfold kSg at h
    split at h
    · split at h
      · rename_i hlo
        injection h with h
        subst h
        simp only [Bool.and_eq_true, decide_eq_true_iff] at hlo
        obtain ⟨v, rfl, h1⟩ := args1 hv hlen
        obtain ⟨p1, a1, a2⟩ := one_pair.1 h1
        refine (hc w v _ _ p1 (a1.mono hlo.1) (a2.mono hlo.2)).mono ?_
        rintro e w' ⟨rfl, ex⟩
        exact ⟨_, rfl, one_num.2 rfl, ex⟩
      · cases h
    · cases h
  · intro args As r h x off
    unfold kSg at h
    split at h
    · split at h
      · injection h with h; subst h; intro e; cases e
      · cases h
    · cases h
theorem rcmp_rat_calls (w : World) (v1 v2 : Value) (a b : Rat) (h1 : IsRat w v1 a) (h2 : IsRat w v2 b) (l1 : LimQ 100000 a) (l2 : LimQ 100000 b) :
    Calls Tryz.prog 37 #[v1, v2] w fun e w' => e = .returned (.int .i64 (cmpZ (a.num * (b.den : Int)) (b.num * (a.den : Int)))) ∧ Ext w w' := by
  refine (walkQ2 (T := .leaf [(false, [.n .i64 (.a2 3 (.a2 2 (.var 0) (.var 3)) (.a2 2 (.var 2) (.var 1)))])])
    (tab := (79, kIIn (.a2 3)) :: tabR3 true)
    (.cons (kIIn_ok cmpZ (fun _ _ => rfl) (fun w v1 v2 z1 z2 h1 h2 => rcmp_calls w v1 v2 z1 z2 h1 h2) ⟨_, Tryz.func79, by decide +kernel, by kernel_rfl⟩) (tabR3_ok (q := true) (fun _ => qE_ok _)))
    Tryz.func37 (by kernel_rfl) (by decide +kernel) (by decide +kernel) h1 h2 l1 l2).mono ?_
  rintro e w' ⟨β, v, rfl, hh, ex⟩
  have := one_num.1 hh
  subst this
  exact ⟨rfl, ex⟩
def tabT : List (Nat × Con) := (35, kSg) :: (38, kSg) :: (37, kCmpQ) :: (36, kCmpQ) :: tabQ
theorem tabT_ok {E : Env} (hE : QEnv E) : TabOK Tryz.prog E tabT :=
  .cons (kSgF_ok (fun w v1 n d h l m => rsign_rat_calls w v1 n d h l m) ⟨_, Tryz.func35, by decide +kernel, by kernel_rfl⟩)
    (.cons kSg_ok (.cons (kCmpQ_ok hE (fun w v1 v2 a b h1 h2 l1 l2 => rcmp_rat_calls w v1 v2 a b h1 h2 l1 l2) ⟨_, Tryz.func37, by decide +kernel, by kernel_rfl⟩)
      (.cons (kCmpQ_ok hE (fun w v1 v2 a b h1 h2 l1 l2 => cmp_rat_calls w v1 v2 a b h1 h2 l1 l2) ⟨_, Tryz.func36, by decide +kernel, by kernel_rfl⟩) (tabQ_ok hE))))

def smOf (a : Rat) : Prop := smQ (decide (a.num < 0)) (limbs a.num.natAbs) (decide ((a.den : Int) < 0)) (limbs (a.den : Int).natAbs) = true
theorem smT_ok1 {a : Rat} (ha : smOf a) : SmOK (qE [a]) (smT 1) := by
  intro cs off c h w bl hv
  unfold smT at h
  split at h
  · rename_i hbb
    injection h with h
    subst h
    simp only [Bool.and_eq_true, beq_iff_eq] at hbb
    obtain ⟨h1, h2, rfl⟩ := hbb
    have hcs := isVars_spec h1
    rw [h2] at hcs
    have hcs' : cs = [.int (.var 0) 6, .int (.var 1) 6] := hcs
    subst hcs'
    have hv' : VarAt (bE smQ (rawOf a)) w bl (rowC 1) := by
      obtain ⟨vs, hc, hcell⟩ := hv
      refine ⟨vs, ?_, hcell⟩
      obtain ⟨l1, r1, rfl, c1, l2, r2, rfl, c2, hn⟩ := hc
      exact ⟨l1, _, rfl, int_chunk c1 rfl, l2, r2, rfl, int_chunk c2 rfl, hn⟩
    refine (small_row1 (bE_sm _) w bl hv').mono ?_
    rintro e w' ⟨c, rfl, hc, ex⟩
    have : c = true := hc.2 (fun i hi => by
      match i, hi with
      | 0, _ => exact ha)
    subst this
    exact ⟨rfl, ex⟩
  · cases h
theorem smT_ok3 {a b d : Rat} (ha : smOf a) (hb : smOf b) (hd : smOf d) : SmOK (qE [a, b, d]) (smT 3) := by
  intro cs off c h w bl hv
  unfold smT at h
  split at h
  · rename_i hbb
    injection h with h
    subst h
    simp only [Bool.and_eq_true, beq_iff_eq] at hbb
    obtain ⟨h1, h2, rfl⟩ := hbb
    have hcs := isVars_spec h1
    rw [h2] at hcs
    have hcs' : cs = [.int (.var 0) 6, .int (.var 1) 6, .int (.var 2) 6, .int (.var 3) 6, .int (.var 4) 6, .int (.var 5) 6] := hcs
    subst hcs'
    have hv' : VarAt (bE smQ (rawOf a ++ rawOf b ++ rawOf d)) w bl (rowC 3) := by
      obtain ⟨vs, hc, hcell⟩ := hv
      refine ⟨vs, ?_, hcell⟩
      obtain ⟨l1, r1, rfl, c1, l2, r2, rfl, c2, l3, r3, rfl, c3, l4, r4, rfl, c4, l5, r5, rfl, c5, l6, r6, rfl, c6, hn⟩ := hc
      exact ⟨l1, _, rfl, int_chunk c1 rfl, l2, _, rfl, int_chunk c2 rfl, l3, _, rfl, int_chunk c3 rfl, l4, _, rfl, int_chunk c4 rfl, l5, _, rfl, int_chunk c5 rfl, l6, r6, rfl, int_chunk c6 rfl, hn⟩
    refine (small_row3 (bE_sm _) w bl hv').mono ?_
    rintro e w' ⟨c, rfl, hc, ex⟩
    have : c = true := hc.2 (fun i hi => by
      match i, hi with
      | 0, _ => exact ha
      | 1, _ => exact hb
      | 2, _ => exact hd)
    subst this
    exact ⟨rfl, ex⟩
  · cases h
theorem smF_ok1 {l : List (Bool × List Nat)} (hn : ¬ ∀ i, i < 1 → (bE smQ l).b i = true) : SmOK (bE smQ l) (smF 1) := by
  intro cs off c h w b hv
  unfold smF at h
  split at h
  · rename_i hb
    injection h with h
    subst h
    simp only [Bool.and_eq_true, beq_iff_eq] at hb
    obtain ⟨h1, h2, rfl⟩ := hb
    have hcs := isRaw_spec h1
    rw [h2] at hcs
    have hcs' : cs = rowC 1 := hcs
    subst hcs'
    refine (small_row1 (bE_sm l) w b hv).mono ?_
    rintro e w' ⟨c, rfl, hc, ex⟩
    have : c = false := by
      cases c with
      | false => rfl
      | true => exact absurd (hc.1 rfl) hn
    subst this
    exact ⟨rfl, ex⟩
  · cases h
theorem smF_ok3 {l : List (Bool × List Nat)} (hn : ¬ ∀ i, i < 3 → (bE smQ l).b i = true) : SmOK (bE smQ l) (smF 3) := by
  intro cs off c h w b hv
  unfold smF at h
  split at h
  · rename_i hb
    injection h with h
    subst h
    simp only [Bool.and_eq_true, beq_iff_eq] at hb
    obtain ⟨h1, h2, rfl⟩ := hb
    have hcs := isRaw_spec h1
    rw [h2] at hcs
    have hcs' : cs = rowC 3 := hcs
    subst hcs'
    refine (small_row3 (bE_sm l) w b hv).mono ?_
    rintro e w' ⟨c, rfl, hc, ex⟩
    have : c = false := by
      cases c with
      | false => rfl
      | true => exact absurd (hc.1 rfl) hn
    subst this
    exact ⟨rfl, ex⟩
  · cases h
/-- A law of one number, of two, of three numbers: small numbers, or others. -/
def IsTrue (w : World) (e : Ending) (w' : World) : Prop := e = .returned (.bool true) ∧ Ext w w'
theorem law1_any {f : Nat} {fn : Func} {W : World → Prop} (hf : Tryz.prog.funcs[f]? = some fn) (h4 : fn.results.toList.length ≤ 4) (hR : funE (cfgL W [] (smF 1)) fn [] [argRaw 0 1] = some (.leaf [(false, [.b (.lit true)])])) (hn : 1 ≤ fn.ntmps)
    (haw : Awake W) (w : World) (hW : ∀ w', Ext w w' → W w') (v1 : Value) (s1 s2 : Bool) (xs1 xs2 : List Nat) (h1 : RawQ w v1 s1 xs1 s2 xs2) (hv : ∀ a : Rat, IsRat w v1 a → LimQ 6 a → Calls Tryz.prog f #[v1] w (IsTrue w)) :
    Calls Tryz.prog f #[v1] w (IsTrue w) := by
  by_cases hc : smQ s1 xs1 s2 xs2 = true
  · obtain ⟨a, i1, l1⟩ := smQ_rat h1 hc
    exact hv a i1 l1
  · refine (fun_sound (C := cfgL W [] (smF 1)) (E := bE smQ [(s1, xs1), (s2, xs2)]) (args := [argRaw 0 1]) (T := .leaf [(false, [.b (.lit true)])])
      mixed (cfgL_ok .nil haw (smF_ok1 (fun hall => hc (hall 0 (by omega))))) no_asm hf h4 hR hn rfl w [v1] rfl ?_ hW).mono ?_
    · intro i x hx
      match i, hx with
      | 0, hx => injection hx with hx; subst hx; exact ⟨fun _ => 0, v1, rfl, argRaw_holds h1 rfl rfl⟩
    · rintro e w' ⟨β, u, rfl, hh, ex⟩
      have := one_bool.1 hh
      subst this
      exact ⟨rfl, ex⟩
theorem law2_any {f : Nat} {fn : Func} {W : World → Prop} (hf : Tryz.prog.funcs[f]? = some fn) (h4 : fn.results.toList.length ≤ 4) (hR : funE (cfgL W [] (smF 2)) fn [] [argRaw 0 1, argRaw 2 3] = some (.leaf [(false, [.b (.lit true)])])) (hn : 2 ≤ fn.ntmps)
    (haw : Awake W) (w : World) (hW : ∀ w', Ext w w' → W w') (v1 v2 : Value) (s1 s2 t1 t2 : Bool) (xs1 xs2 ys1 ys2 : List Nat) (h1 : RawQ w v1 s1 xs1 s2 xs2) (h2 : RawQ w v2 t1 ys1 t2 ys2)
    (hv : ∀ a b : Rat, IsRat w v1 a → IsRat w v2 b → LimQ 6 a → LimQ 6 b → Calls Tryz.prog f #[v1, v2] w (IsTrue w)) :
    Calls Tryz.prog f #[v1, v2] w (IsTrue w) := by
  by_cases hc : smQ s1 xs1 s2 xs2 = true ∧ smQ t1 ys1 t2 ys2 = true
  · obtain ⟨a, i1, l1⟩ := smQ_rat h1 hc.1
    obtain ⟨b, i2, l2⟩ := smQ_rat h2 hc.2
    exact hv a b i1 i2 l1 l2
  · refine (fun_sound (C := cfgL W [] (smF 2)) (E := bE smQ [(s1, xs1), (s2, xs2), (t1, ys1), (t2, ys2)]) (args := [argRaw 0 1, argRaw 2 3]) (T := .leaf [(false, [.b (.lit true)])])
      mixed (cfgL_ok .nil haw (smF_ok2 (fun hall => hc ⟨hall 0 (by omega), hall 1 (by omega)⟩))) no_asm hf h4 hR hn rfl w [v1, v2] rfl ?_ hW).mono ?_
    · intro i x hx
      match i, hx with
      | 0, hx => injection hx with hx; subst hx; exact ⟨fun _ => 0, v1, rfl, argRaw_holds h1 rfl rfl⟩
      | 1, hx => injection hx with hx; subst hx; exact ⟨fun _ => 0, v2, rfl, argRaw_holds h2 rfl rfl⟩
    · rintro e w' ⟨β, u, rfl, hh, ex⟩
      have := one_bool.1 hh
      subst this
      exact ⟨rfl, ex⟩
theorem law3_any {f : Nat} {fn : Func} {W : World → Prop} (hf : Tryz.prog.funcs[f]? = some fn) (h4 : fn.results.toList.length ≤ 4) (hR : funE (cfgL W [] (smF 3)) fn [] [argRaw 0 1, argRaw 2 3, argRaw 4 5] = some (.leaf [(false, [.b (.lit true)])])) (hn : 3 ≤ fn.ntmps)
    (haw : Awake W) (w : World) (hW : ∀ w', Ext w w' → W w') (v1 v2 v3 : Value) (s1 s2 t1 t2 u1 u2 : Bool) (xs1 xs2 ys1 ys2 zs1 zs2 : List Nat) (h1 : RawQ w v1 s1 xs1 s2 xs2) (h2 : RawQ w v2 t1 ys1 t2 ys2) (h3 : RawQ w v3 u1 zs1 u2 zs2)
    (hv : ∀ a b c : Rat, IsRat w v1 a → IsRat w v2 b → IsRat w v3 c → LimQ 6 a → LimQ 6 b → LimQ 6 c → Calls Tryz.prog f #[v1, v2, v3] w (IsTrue w)) :
    Calls Tryz.prog f #[v1, v2, v3] w (IsTrue w) := by
  by_cases hc : smQ s1 xs1 s2 xs2 = true ∧ smQ t1 ys1 t2 ys2 = true ∧ smQ u1 zs1 u2 zs2 = true
  · obtain ⟨a, i1, l1⟩ := smQ_rat h1 hc.1
    obtain ⟨b, i2, l2⟩ := smQ_rat h2 hc.2.1
    obtain ⟨c, i3, l3⟩ := smQ_rat h3 hc.2.2
    exact hv a b c i1 i2 i3 l1 l2 l3
  · refine (fun_sound (C := cfgL W [] (smF 3)) (E := bE smQ [(s1, xs1), (s2, xs2), (t1, ys1), (t2, ys2), (u1, zs1), (u2, zs2)]) (args := [argRaw 0 1, argRaw 2 3, argRaw 4 5]) (T := .leaf [(false, [.b (.lit true)])])
      mixed (cfgL_ok .nil haw (smF_ok3 (fun hall => hc ⟨hall 0 (by omega), hall 1 (by omega), hall 2 (by omega)⟩))) no_asm hf h4 hR hn rfl w [v1, v2, v3] rfl ?_ hW).mono ?_
    · intro i x hx
      match i, hx with
      | 0, hx => injection hx with hx; subst hx; exact ⟨fun _ => 0, v1, rfl, argRaw_holds h1 rfl rfl⟩
      | 1, hx => injection hx with hx; subst hx; exact ⟨fun _ => 0, v2, rfl, argRaw_holds h2 rfl rfl⟩
      | 2, hx => injection hx with hx; subst hx; exact ⟨fun _ => 0, v3, rfl, argRaw_holds h3 rfl rfl⟩
    · rintro e w' ⟨β, u, rfl, hh, ex⟩
      have := one_bool.1 hh
      subst this
      exact ⟨rfl, ex⟩
/-- Terms for the parts of rational numbers, and what they mean. -/
abbrev IT2 := IT × IT
def qv (i : Nat) : IT2 := (.var (2 * i), .var (2 * i + 1))
def qop (f : Nat) (p q : IT2) : IT2 := (.a4 (2 * f) p.1 p.2 q.1 q.2, .a4 (2 * f + 1) p.1 p.2 q.1 q.2)
def qsame (p q : IT2) : BT := .and (.eq p.1 q.1) (.eq p.2 q.2)
def RepQ (E : Env) (p : IT2) (q : Rat) : Prop := p.1.den E = q.num ∧ p.2.den E = (q.den : Int)
theorem rep_op {E : Env} {f : Nat} {p q : IT2} {a b : Rat} (hf : f ≠ 4) (hp : RepQ E p a) (hq : RepQ E q b) : RepQ E (qop f p q) (ratF f a b) := by
  constructor
  · show fn4 (2 * f) (p.1.den E) (p.2.den E) (q.1.den E) (q.2.den E) = _
    rw [hp.1, hp.2, hq.1, hq.2, fn4_num (by omega), show 2 * f / 2 = f by omega]
  · show fn4 (2 * f + 1) (p.1.den E) (p.2.den E) (q.1.den E) (q.2.den E) = _
    rw [hp.1, hp.2, hq.1, hq.2, fn4_den (by omega) (by omega), show (2 * f + 1) / 2 = f by omega]
theorem rep_div {E : Env} {p q : IT2} {a b : Rat} (hb : b ≠ 0) (hp : RepQ E p a) (hq : RepQ E q b) : RepQ E (qop 4 p q) (a / b) := by
  constructor
  · show fn4 8 (p.1.den E) (p.2.den E) (q.1.den E) (q.2.den E) = _
    rw [hp.1, hp.2, hq.1, hq.2, fn4_num rfl]; rfl
  · show fn4 9 (p.1.den E) (p.2.den E) (q.1.den E) (q.2.den E) = _
    rw [hp.1, hp.2, hq.1, hq.2]
    unfold fn4
    rw [if_neg (by decide), divInt_parts, divInt_parts, if_neg (fun e => hb e.2)]
    rfl
theorem rep_same {E : Env} {p q : IT2} {a b : Rat} (hp : RepQ E p a) (hq : RepQ E q b) (h : a = b) : (qsame p q).den E = true := by
  subst h
  show (p.1.den E == q.1.den E && p.2.den E == q.2.den E) = true
  rw [hp.1, hp.2, hq.1, hq.2]
  simp
theorem rep_v {l : List Rat} {i : Nat} : RepQ (qE l) (qv i) (l.getD i 0) := by
  constructor
  · show (if 2 * i % 2 = 0 then _ else _) = _
    rw [if_pos (by omega), show 2 * i / 2 = i by omega]
  · show (if (2 * i + 1) % 2 = 0 then _ else _) = _
    rw [if_neg (by omega), show (2 * i + 1) / 2 = i by omega]
end Go.Proofs.YtmofkmdacfdejaaGreatDoor
end

/- ---- Rfb ---- -/
section
/-
  RationalField: sums and products are associative, commutative and distributive; differences and quotients undo them.
-/
set_option maxRecDepth 100000
namespace Go.Proofs.YtmofkmdacfdejaaGreatDoor
open Go.RowKit

def fieldOut : BT := qsame (qop 4 (qop 2 (qv 0) (qv 2)) (qv 2)) (qv 0)
def leafB (b : BT) : Tree := .leaf [(false, [.b b])]
def fieldT : Tree :=
  .ite (qsame (qop 0 (qop 0 (qv 0) (qv 1)) (qv 2)) (qop 0 (qv 1) (qop 0 (qv 2) (qv 0))))
    (.ite (qsame (qop 2 (qop 2 (qv 0) (qv 1)) (qv 2)) (qop 2 (qv 1) (qop 2 (qv 2) (qv 0))))
      (.ite (qsame (qop 2 (qv 0) (qop 0 (qv 1) (qv 2))) (qop 0 (qop 2 (qv 0) (qv 1)) (qop 2 (qv 0) (qv 2))))
        (.ite (qsame (qop 1 (qop 0 (qv 0) (qv 1)) (qv 1)) (qv 0))
          (.ite (.eq (.a2 3 (.var 4) (.lit 0)) (.lit 0))
            (.ite (.eq (.a1 1 (.var 4)) (.lit 6)) (.ite (.eq (.a1 1 (.var 4)) (.lit 0)) (leafB fieldOut) (leafB (.lit true))) (leafB (.lit false)))
            (.ite (.eq (.a1 1 (.var 4)) (.lit 6)) (leafB (.lit false)) (.ite (.eq (.a1 1 (.var 4)) (.lit 0)) (leafB fieldOut) (leafB (.lit true)))))
          (leafB (.lit false))) (leafB (.lit false))) (leafB (.lit false))) (leafB (.lit false))
theorem field_valid {W : World → Prop} (haw : Awake W) (w : World) (hW : ∀ w', Ext w w' → W w') (v1 v2 v3 : Value) (a b c : Rat) (h1 : IsRat w v1 a) (h2 : IsRat w v2 b) (h3 : IsRat w v3 c) (l1 : LimQ 6 a) (l2 : LimQ 6 b) (l3 : LimQ 6 c) :
    Calls Tryz.prog 6 #[v1, v2, v3] w (IsTrue w) := by
  refine (fun_sound (C := cfgL W tabT (smT 3)) (E := qE [a, b, c]) (args := [argS 0, argS 1, argS 2]) (T := fieldT)
    mixed (cfgL_ok (tabT_ok (qE_ok _)) haw (smT_ok3 (smQ_of l1 h1) (smQ_of l2 h2) (smQ_of l3 h3))) no_asm Tryz.func6 (by decide +kernel) (by kernel_rfl) (by decide +kernel) rfl w [v1, v2, v3] rfl ?_ hW).mono ?_
  · intro i x hx
    match i, hx with
    | 0, hx => injection hx with hx; subst hx; exact ⟨fun _ => 0, v1, rfl, argS_holds h1 l1 rfl rfl⟩
    | 1, hx => injection hx with hx; subst hx; exact ⟨fun _ => 0, v2, rfl, argS_holds h2 l2 rfl rfl⟩
    | 2, hx => injection hx with hx; subst hx; exact ⟨fun _ => 0, v3, rfl, argS_holds h3 l3 rfl rfl⟩
  · rintro e w' ⟨β, u, rfl, hh, ex⟩
    have ra : RepQ (qE [a, b, c]) (qv 0) a := rep_v (i := 0)
    have rb : RepQ (qE [a, b, c]) (qv 1) b := rep_v (i := 1)
    have rc : RepQ (qE [a, b, c]) (qv 2) c := rep_v (i := 2)
    have add : ∀ {p q x y}, RepQ (qE [a, b, c]) p x → RepQ (qE [a, b, c]) q y → RepQ (qE [a, b, c]) (qop 0 p q) (x + y) := fun h k => rep_op (f := 0) (by omega) h k
    have sub : ∀ {p q x y}, RepQ (qE [a, b, c]) p x → RepQ (qE [a, b, c]) q y → RepQ (qE [a, b, c]) (qop 1 p q) (x - y) := fun h k => rep_op (f := 1) (by omega) h k
    have mul : ∀ {p q x y}, RepQ (qE [a, b, c]) p x → RepQ (qE [a, b, c]) q y → RepQ (qE [a, b, c]) (qop 2 p q) (x * y) := fun h k => rep_op (f := 2) (by omega) h k
    have t1 := rep_same (add (add ra rb) rc) (add rb (add rc ra)) (by grind)
    have t2 := rep_same (mul (mul ra rb) rc) (mul rb (mul rc ra)) (by grind)
    have t3 := rep_same (mul ra (add rb rc)) (add (mul ra rb) (mul ra rc)) (by grind)
    have t4 := rep_same (sub (add ra rb) rb) ra (by grind)
    have es : (BT.eq (.a2 3 (.var 4) (.lit 0)) (.lit 0)).den (qE [a, b, c]) = (cmpZ c.num 0 == 0) := rfl
    have e6 : (BT.eq (.a1 1 (.var 4)) (.lit 6)).den (qE [a, b, c]) = (de c.num == 6) := rfl
    have e0 : (BT.eq (.a1 1 (.var 4)) (.lit 0)).den (qE [a, b, c]) = (de c.num == 0) := rfl
    have out : ((fieldT.pick (qE [a, b, c])) = [(false, [.b (.lit true)])]) ∨ ((fieldT.pick (qE [a, b, c])) = [(false, [.b fieldOut])] ∧ c ≠ 0) := by
      unfold fieldT
      simp only [Tree.pick, leafB]
      rw [if_pos t1, if_pos t2, if_pos t3, if_pos t4, es, e6, e0]
      by_cases hc : c = 0
      · have hz : c.num = 0 := by rw [hc]; rfl
        have d6 : de c.num = 6 := by rw [hz]; rfl
        rw [if_pos (by rw [hz]; rfl), if_pos (by rw [d6]; rfl), if_neg (by rw [d6]; decide)]
        exact .inl rfl
      · have hz : c.num ≠ 0 := fun e => hc (Rat.num_eq_zero.1 e)
        have d0 : de c.num = 0 := by unfold de; rw [if_neg hz]
        rw [if_neg (fun e => hz ((cmp_eq0 c.num).1 (eq_of_beq e))), if_neg (by rw [d0]; decide), if_pos (by rw [d0]; rfl)]
        exact .inr ⟨rfl, hc⟩
    rcases out with ho | ⟨ho, hc⟩
    · rw [ho] at hh
      have := one_bool.1 hh
      subst this
      exact ⟨rfl, ex⟩
    · rw [ho] at hh
      have := one_bool.1 hh
      subst this
      have t5 : fieldOut.den (qE [a, b, c]) = true := rep_same (rep_div hc (mul ra rc) rc) ra (by rw [Rat.div_def, Rat.mul_assoc, Rat.mul_inv_cancel c hc, Rat.mul_one])
      rw [t5]
      exact ⟨rfl, ex⟩
theorem field_calls {W : World → Prop} (haw : Awake W) (w : World) (hW : ∀ w', Ext w w' → W w') (v1 v2 v3 : Value) (s1 s2 t1 t2 u1 u2 : Bool) (xs1 xs2 ys1 ys2 zs1 zs2 : List Nat) (h1 : RawQ w v1 s1 xs1 s2 xs2) (h2 : RawQ w v2 t1 ys1 t2 ys2) (h3 : RawQ w v3 u1 zs1 u2 zs2) :
    Calls Tryz.prog 6 #[v1, v2, v3] w (IsTrue w) :=
  law3_any Tryz.func6 (by decide +kernel) (by kernel_rfl) (by decide +kernel) haw w hW v1 v2 v3 s1 s2 t1 t2 u1 u2 xs1 xs2 ys1 ys2 zs1 zs2 h1 h2 h3
    (fun a b c i1 i2 i3 l1 l2 l3 => field_valid haw w hW v1 v2 v3 a b c i1 i2 i3 l1 l2 l3)
end Go.Proofs.YtmofkmdacfdejaaGreatDoor
end

/- ---- Rfc ---- -/
section
/-
  RationalOrder and RationalFloor.
-/
set_option maxRecDepth 100000
namespace Go.Proofs.YtmofkmdacfdejaaGreatDoor
open Go.RowKit

def sgQ (q : Rat) : Int := cmpZ q.num 0
theorem num_pos_iff (q : Rat) : 0 < q.num ↔ 0 < q := by
  have h1 : 0 ≤ q.num ↔ 0 ≤ q := Rat.num_nonneg
  have h2 : q.num = 0 ↔ q = 0 := Rat.num_eq_zero
  constructor
  · intro h
    have a := h1.1 (by omega)
    have b : q ≠ 0 := fun e => by have := h2.2 e; omega
    grind
  · intro h
    have a := h1.2 (by grind)
    have b : q.num ≠ 0 := fun e => by have := h2.1 e; grind
    omega
theorem sgQ_cases (q : Rat) : (q < 0 ∧ sgQ q = -1) ∨ (q = 0 ∧ sgQ q = 0) ∨ (0 < q ∧ sgQ q = 1) := by
  have h1 := num_pos_iff q
  have h2 : q.num = 0 ↔ q = 0 := Rat.num_eq_zero
  unfold sgQ
  rcases cmpZ_cases q.num 0 with ⟨h, e⟩ | ⟨h, e⟩ | ⟨h, e⟩
  · refine .inl ⟨?_, e⟩
    have a : ¬ 0 < q := fun k => by have := h1.2 k; omega
    have b : q ≠ 0 := fun k => by have := h2.2 k; omega
    grind
  · exact .inr (.inl ⟨h2.1 h, e⟩)
  · exact .inr (.inr ⟨h1.1 h, e⟩)
theorem sgQ_pos {q : Rat} (h : 0 < q) : sgQ q = 1 := by rcases sgQ_cases q with ⟨k, e⟩ | ⟨k, e⟩ | ⟨k, e⟩ <;> grind
theorem sgQ_neg' {q : Rat} (h : q < 0) : sgQ q = -1 := by rcases sgQ_cases q with ⟨k, e⟩ | ⟨k, e⟩ | ⟨k, e⟩ <;> grind
theorem sgQ_zero : sgQ 0 = 0 := rfl
theorem sgQ_opp (q : Rat) : sgQ (-q) = - sgQ q := by
  rcases sgQ_cases q with ⟨k, e⟩ | ⟨k, e⟩ | ⟨k, e⟩
  · rw [e, sgQ_pos (by grind)]; rfl
  · rw [e, k]; rfl
  · rw [e, sgQ_neg' (by grind)]
theorem sgQ_mul (a b : Rat) : sgQ (a * b) = sgQ a * sgQ b := by
  rcases sgQ_cases a with ⟨k, e⟩ | ⟨k, e⟩ | ⟨k, e⟩ <;> rcases sgQ_cases b with ⟨j, f⟩ | ⟨j, f⟩ | ⟨j, f⟩ <;> rw [e, f]
  · have := Rat.mul_pos (a := -a) (b := -b) (by grind) (by grind)
    rw [sgQ_pos (by grind)]; rfl
  · rw [j, Rat.mul_zero]; rfl
  · have := Rat.mul_pos (a := -a) (b := b) (by grind) (by grind)
    rw [sgQ_neg' (by grind)]; rfl
  · rw [k, Rat.zero_mul]; rfl
  · rw [k, Rat.zero_mul]; rfl
  · rw [k, Rat.zero_mul]; rfl
  · have := Rat.mul_pos (a := a) (b := -b) (by grind) (by grind)
    rw [sgQ_neg' (by grind)]; rfl
  · rw [j, Rat.mul_zero]; rfl
  · rw [sgQ_pos (Rat.mul_pos k j)]; rfl
theorem cmpQ_sub (a b : Rat) : cmpZ (a.num * (b.den : Int)) (b.num * (a.den : Int)) = sgQ (a - b) := by
  have h1 := Rat.lt_iff a b
  have h2 := Rat.lt_iff b a
  rcases cmpZ_cases (a.num * (b.den : Int)) (b.num * (a.den : Int)) with ⟨h, e⟩ | ⟨h, e⟩ | ⟨h, e⟩
  · have := h1.2 h
    rw [e, sgQ_neg' (by grind)]
  · have k1 : ¬ a < b := fun k => by have := h1.1 k; omega
    have k2 : ¬ b < a := fun k => by have := h2.1 k; omega
    have : a - b = 0 := by grind
    rw [e, this]; rfl
  · have := h2.2 h
    rw [e, sgQ_pos (by grind)]
def qcmp (p q : IT2) : IT := .a2 3 (.a2 2 p.1 q.2) (.a2 2 q.1 p.2)
theorem rep_cmp {E : Env} {p q : IT2} {a b : Rat} (hp : RepQ E p a) (hq : RepQ E q b) : (qcmp p q).den E = sgQ (a - b) := by
  show cmpZ (p.1.den E * q.2.den E) (q.1.den E * p.2.den E) = _
  rw [hp.1, hp.2, hq.1, hq.2, cmpQ_sub]
def ordT : Tree :=
  .ite (.eq (qcmp (qv 1) (qv 0)) (.a1 0 (qcmp (qv 0) (qv 1))))
    (.ite (.eq (qcmp (qop 0 (qv 0) (qv 2)) (qop 0 (qv 1) (qv 2))) (qcmp (qv 0) (qv 1)))
      (leafB (.eq (qcmp (qop 2 (qv 0) (qv 2)) (qop 2 (qv 1) (qv 2))) (.a2 2 (qcmp (qv 0) (qv 1)) (.a2 3 (.var 4) (.lit 0)))))
      (leafB (.lit false))) (leafB (.lit false))
theorem eq_den {E : Env} {s t : IT} {x y : Int} (h : s.den E = x) (k : t.den E = y) (e : x = y) : (BT.eq s t).den E = true := by
  show (s.den E == t.den E) = true
  rw [h, k, e]; simp
theorem order_valid {W : World → Prop} (haw : Awake W) (w : World) (hW : ∀ w', Ext w w' → W w') (v1 v2 v3 : Value) (a b c : Rat) (h1 : IsRat w v1 a) (h2 : IsRat w v2 b) (h3 : IsRat w v3 c) (l1 : LimQ 6 a) (l2 : LimQ 6 b) (l3 : LimQ 6 c) :
    Calls Tryz.prog 7 #[v1, v2, v3] w (IsTrue w) := by
  refine (fun_sound (C := cfgL W tabT (smT 3)) (E := qE [a, b, c]) (args := [argS 0, argS 1, argS 2]) (T := ordT)
    mixed (cfgL_ok (tabT_ok (qE_ok _)) haw (smT_ok3 (smQ_of l1 h1) (smQ_of l2 h2) (smQ_of l3 h3))) no_asm Tryz.func7 (by decide +kernel) (by kernel_rfl) (by decide +kernel) rfl w [v1, v2, v3] rfl ?_ hW).mono ?_
  · intro i x hx
    match i, hx with
    | 0, hx => injection hx with hx; subst hx; exact ⟨fun _ => 0, v1, rfl, argS_holds h1 l1 rfl rfl⟩
    | 1, hx => injection hx with hx; subst hx; exact ⟨fun _ => 0, v2, rfl, argS_holds h2 l2 rfl rfl⟩
    | 2, hx => injection hx with hx; subst hx; exact ⟨fun _ => 0, v3, rfl, argS_holds h3 l3 rfl rfl⟩
  · rintro e w' ⟨β, u, rfl, hh, ex⟩
    have ra : RepQ (qE [a, b, c]) (qv 0) a := rep_v (i := 0)
    have rb : RepQ (qE [a, b, c]) (qv 1) b := rep_v (i := 1)
    have rc : RepQ (qE [a, b, c]) (qv 2) c := rep_v (i := 2)
    have add : ∀ {p q x y}, RepQ (qE [a, b, c]) p x → RepQ (qE [a, b, c]) q y → RepQ (qE [a, b, c]) (qop 0 p q) (x + y) := fun h k => rep_op (f := 0) (by omega) h k
    have mul : ∀ {p q x y}, RepQ (qE [a, b, c]) p x → RepQ (qE [a, b, c]) q y → RepQ (qE [a, b, c]) (qop 2 p q) (x * y) := fun h k => rep_op (f := 2) (by omega) h k
    have k0 := rep_cmp ra rb
    have k1 := rep_cmp rb ra
    have k2 := rep_cmp (add ra rc) (add rb rc)
    have k3 := rep_cmp (mul ra rc) (mul rb rc)
    have n1 : (IT.a1 0 (qcmp (qv 0) (qv 1))).den (qE [a, b, c]) = - sgQ (a - b) := by show - _ = _; rw [k0]
    have n2 : (IT.a2 2 (qcmp (qv 0) (qv 1)) (.a2 3 (.var 4) (.lit 0))).den (qE [a, b, c]) = sgQ (a - b) * sgQ c := by show _ * sgQ c = _; rw [k0]
    have t1 := eq_den k1 n1 (by rw [← sgQ_opp]; congr 1; grind)
    have t2 := eq_den k2 k0 (by congr 1; grind)
    have t3 := eq_den k3 n2 (by rw [← sgQ_mul]; congr 1; grind)
    unfold ordT leafB at hh
    simp only [Tree.pick] at hh
    rw [if_pos t1, if_pos t2] at hh
    have := one_bool.1 hh
    subst this
    rw [t3]
    exact ⟨rfl, ex⟩
theorem order_calls {W : World → Prop} (haw : Awake W) (w : World) (hW : ∀ w', Ext w w' → W w') (v1 v2 v3 : Value) (s1 s2 t1 t2 u1 u2 : Bool) (xs1 xs2 ys1 ys2 zs1 zs2 : List Nat) (h1 : RawQ w v1 s1 xs1 s2 xs2) (h2 : RawQ w v2 t1 ys1 t2 ys2) (h3 : RawQ w v3 u1 zs1 u2 zs2) :
    Calls Tryz.prog 7 #[v1, v2, v3] w (IsTrue w) :=
  law3_any Tryz.func7 (by decide +kernel) (by kernel_rfl) (by decide +kernel) haw w hW v1 v2 v3 s1 s2 t1 t2 u1 u2 xs1 xs2 ys1 ys2 zs1 zs2 h1 h2 h3
    (fun a b c i1 i2 i3 l1 l2 l3 => order_valid haw w hW v1 v2 v3 a b c i1 i2 i3 l1 l2 l3)

/-- Floor. -/
theorem rvalidI_calls (w : World) (v : Value) (z : Int) (h : IsInt w v z) : Calls Tryz.prog 40 #[v] w fun e w' => e = .returned (.bool true) ∧ Ext w w' := by
  obtain ⟨k1, k2⟩ := int_raw h
  have := rvalid_calls w v _ _ k1
  rw [k2] at this
  exact this
theorem rfromInt_calls (w : World) (v : Value) (z : Int) (h : IsInt w v z) (l : Lim 400000 z) : Calls Tryz.prog 41 #[v] w (Ret (fun v w' => IsPair w' v z 1) w) := by
  refine (walkZ1 (T := .leaf [(true, [.int (.var 0) 400000, .int (.lit 1) 3])]) (tabR3_ok (q := false) (fun h => by cases h)) Tryz.func41 (by kernel_rfl) (by decide +kernel) (by decide +kernel) h l).mono ?_
  rintro e w' ⟨β, v, rfl, hh, ex⟩
  exact ⟨v, rfl, (one_pair.1 hh).1, ex⟩
def kFI : Con
  | [.val true [.int x l]], _ => if lo l then some (.val true [.int x l, .int (.lit 1) 3]) else none
  | _, _ => none
theorem kFI_ok {E : Env} : ConOK Tryz.prog E 41 kFI := by
  refine ⟨?_, ?_, ⟨_, Tryz.func41, by decide +kernel, by kernel_rfl⟩⟩
  · intro args As r h hG β w vs hv hlen
    unfold kFI at h
    split at h
    · split at h
      · rename_i hlo
        injection h with h
        subst h
        simp only [lo, decide_eq_true_iff] at hlo
        obtain ⟨v, rfl, h1⟩ := args1 hv hlen
        obtain ⟨i1, l1⟩ := one_int.1 h1
        refine (rfromInt_calls w v _ i1 (l1.mono hlo)).mono ?_
        rintro e w' ⟨u, rfl, hp, ex⟩
        exact ⟨u, rfl, one_pair.2 ⟨hp, l1, lim3 (z := 1) (by decide) (by decide)⟩, ex⟩
      · cases h
    · cases h
  · intro args As r h x off
    unfold kFI at h
    split at h
    · split at h
      · injection h with h; subst h; intro e; cases e
      · cases h
    · cases h
def tabFl : List (Nat × Con) := (39, kFlQ) :: (41, kFI) :: (40, kIb fun _ => .lit true) :: tabT
theorem tabFl_ok {E : Env} (hE : QEnv E) : TabOK Tryz.prog E tabFl :=
  .cons (kFlQ_ok hE) (.cons kFI_ok (.cons (kIb_ok (fun _ => true) (fun _ => rfl) (fun w v z h => rvalidI_calls w v z h) ⟨_, Tryz.func40, by decide +kernel, by kernel_rfl⟩) (tabT_ok hE)))
def flQ : IT2 := (.a2 4 (.var 0) (.var 1), .lit 1)
def flT : Tree :=
  .ite (.le (.lit 0) (.a2 3 (qop 1 (qv 0) flQ).1 (.lit 0))) (leafB (.lt (qcmp (qop 1 (qv 0) flQ) (.lit 1, .lit 1)) (.lit 0))) (leafB (.lit false))
theorem floor_valid {W : World → Prop} (haw : Awake W) (w : World) (hW : ∀ w', Ext w w' → W w') (v1 : Value) (a : Rat) (h1 : IsRat w v1 a) (l1 : LimQ 6 a) :
    Calls Tryz.prog 8 #[v1] w (IsTrue w) := by
  refine (fun_sound (C := cfgL W tabFl (smT 1)) (E := qE [a]) (args := [argS 0]) (T := flT)
    mixed (cfgL_ok (tabFl_ok (qE_ok _)) haw (smT_ok1 (smQ_of l1 h1))) no_asm Tryz.func8 (by decide +kernel) (by kernel_rfl) (by decide +kernel) rfl w [v1] rfl ?_ hW).mono ?_
  · intro i x hx
    match i, hx with
    | 0, hx => injection hx with hx; subst hx; exact ⟨fun _ => 0, v1, rfl, argS_holds h1 l1 rfl rfl⟩
  · rintro e w' ⟨β, u, rfl, hh, ex⟩
    have ra : RepQ (qE [a]) (qv 0) a := rep_v (i := 0)
    have hden : 0 < (a.den : Int) := by have := a.den_pos; omega
    have rf : RepQ (qE [a]) flQ (a.floor : Rat) := by
      constructor
      · show dq a.num (a.den : Int) = _
        rw [dq_pos hden, ← Rat.floor_def, Rat.num_intCast]
      · show (1 : Int) = _
        rw [Rat.den_intCast]; rfl
    have rr : RepQ (qE [a]) (qop 1 (qv 0) flQ) (a - (a.floor : Rat)) := rep_op (f := 1) (by omega) ra rf
    have r1 : RepQ (qE [a]) (.lit 1, .lit 1) (1 : Rat) := ⟨rfl, rfl⟩
    have b1 : (a.floor : Rat) ≤ a := Rat.floor_le a
    have b2 : a < ((a.floor + 1 : Int) : Rat) := Rat.lt_floor_add_one a
    have b3 : ((a.floor + 1 : Int) : Rat) = (a.floor : Rat) + 1 := by rw [Rat.intCast_add]; rfl
    rw [b3] at b2
    have c1 := rep_cmp rr r1
    rw [sgQ_neg' (by grind)] at c1
    have t1 : (BT.le (.lit 0) (.a2 3 (qop 1 (qv 0) flQ).1 (.lit 0))).den (qE [a]) = true := by
      show decide (0 ≤ cmpZ ((qop 1 (qv 0) flQ).1.den (qE [a])) 0) = true
      rw [rr.1, decide_eq_true_iff]
      show 0 ≤ sgQ _
      rcases sgQ_cases (a - (a.floor : Rat)) with ⟨k, e⟩ | ⟨k, e⟩ | ⟨k, e⟩
      · exfalso; grind
      · rw [e]; decide
      · rw [e]; decide
    have t2 : (BT.lt (qcmp (qop 1 (qv 0) flQ) (.lit 1, .lit 1)) (.lit 0)).den (qE [a]) = true := by
      show decide ((qcmp (qop 1 (qv 0) flQ) (.lit 1, .lit 1)).den (qE [a]) < 0) = true
      rw [c1]; rfl
    unfold flT leafB at hh
    simp only [Tree.pick] at hh
    rw [if_pos t1] at hh
    have := one_bool.1 hh
    subst this
    rw [t2]
    exact ⟨rfl, ex⟩
theorem floor_calls {W : World → Prop} (haw : Awake W) (w : World) (hW : ∀ w', Ext w w' → W w') (v1 : Value) (s1 s2 : Bool) (xs1 xs2 : List Nat) (h1 : RawQ w v1 s1 xs1 s2 xs2) :
    Calls Tryz.prog 8 #[v1] w (IsTrue w) :=
  law1_any Tryz.func8 (by decide +kernel) (by kernel_rfl) (by decide +kernel) haw w hW v1 s1 s2 xs1 xs2 h1 (fun a i1 l1 => floor_valid haw w hW v1 a i1 l1)
end Go.Proofs.YtmofkmdacfdejaaGreatDoor
end

/- ---- Rsq ---- -/
section
/-
  Sqrt of the reference.
-/
set_option maxRecDepth 100000
namespace Go.Proofs.YtmofkmdacfdejaaGreatDoor
open Go.RowKit

/-- What an append of limbs to a slice of the call's own leaves. -/
theorem run_append_own_limbs (w : World) (B : Nat) (hB : B ≤ w.heap.size) (ty : TypeId) (v : Value) (zs : List Nat) (lz : zs.length ≤ 1099511627776) (hz : 0 < zs.length) (hown : w.ownsRow B 67 1 v zs.length (zs.map fun x => Value.int .u32 ((x : Nat) : Int))) (b : Nat) (xs : List Nat) (c : Nat) (lx : xs.length ≤ 1099511627776)
    (h : ∀ i, i < xs.length → w.cell? ⟨b, i, none⟩ = some (.int .u32 ((xs.getD i 0 : Nat) : Int))) :
    ∃ ao' cap w1, (Builtin.append_ #[22, 22] ty #[v, .slice (some ⟨b, 0, none⟩) xs.length c]).run Tryz.prog w = .ok (.slice ao' (zs.length + xs.length) cap) w1 ∧
      zs.length + xs.length ≤ cap ∧ cap ≤ 9223372036854775807 ∧ Below B w w1 ∧ Cells w1 ao' (zs ++ xs) := by
  obtain ⟨i0, hi, hz0, hz1, hz2⟩ := info_parts info_u32
  have hnews : ∀ j u, (xs.map fun x => Value.int .u32 ((x : Nat) : Int))[j]? = some u → w.cell? ((⟨b, 0, none⟩ : Addr).add j) = some u := by
    intro j u hu
    rw [List.getElem?_map] at hu
    obtain ⟨x, hx1, rfl⟩ := Option.map_eq_some_iff.1 hu
    have hj : j < xs.length := (List.getElem?_eq_some_iff.1 hx1).1
    have := h j hj
    rw [List.getD_eq_getElem?_getD, hx1] at this
    by_cases h0 : j = 0
    · subst h0; simpa [Addr.add] using this
    · simpa [Addr.add, h0] using this
  obtain ⟨v', w1, hrun, hown1, hgrow, hnil⟩ := run_append_own (P := Tryz.prog) w B 22 ty 67 i0 (.int .u32 0) 1 4 Tryz.underlying22 hi hz0 hz1 hz2 rfl (by decide) _ _ _ hown ⟨b, 0, none⟩ xs.length c (xs.map fun x => Value.int .u32 ((x : Nat) : Int)) (by simp) hnews
    (by intro u hu; obtain ⟨x, _, rfl⟩ := List.mem_map.1 hu; rfl) (by unfold maxLen; omega) (by omega) hB
  rw [← List.map_append, ← List.length_append] at hown1
  have hE : Below B w w1 := Below.grown (Below.refl _ _) hgrow hB (fun k hk => (hown.lt k hk).1)
  rcases hown1.2 with ⟨rfl, h0⟩ | ⟨g, cap, cur, rfl, hg, _, hnc, hcm, _, _⟩
  · exfalso
    rw [List.length_append] at h0
    omega
  · rw [List.length_append] at hnc
    exact ⟨_, cap, w1, by rw [hrun, List.length_append], hnc, by unfold maxLen at hcm; omega, hE, (Blk.of_owns hown1).cells⟩

/-- The rounds. -/
def sqI : LInv where
  lk := [(1, .ptr 1 0), (2, .ptr 2 0), (4, .ptr 4 0), (5, .ptr 5 0)]
  vr := [(1, [.int (.var 0) 100000]), (2, [.int (.lit 0) 0]), (4, [.int (.var 1) 100001]), (5, [.int (.lit 2) 3])]
  vs := [1]
  G := []
  lm := [(1, 100001)]
def sqNext : IT := .a2 4 (.a2 0 (.var 1) (.a2 4 (.var 0) (.var 1))) (.lit 2)
def sqLeaf : List (Bool × List Chunk) := [(true, [.int (.var 1) 100001]), (false, [.n .i64 (.lit 0)])]
def sqTree : LTree := .ite (.le (.lit 0) (.a2 3 sqNext (.var 1))) (.leaf sqLeaf) (.again 0 [sqNext])
def tabRsq : List (Nat × Con) := [(90, kDM), (47, kII (.a2 0) (fun l m => max l m + 1)), (79, kIIn (.a2 3))]
theorem rcmp_calls' (w : World) (v1 v2 : Value) (z1 z2 : Int) (h1 : IsInt w v1 z1) (h2 : IsInt w v2 z2) : Calls Tryz.prog 79 #[v1, v2] w fun e w' => e = .returned (.int .i64 (cmpZ z1 z2)) ∧ Ext w w' := rcmp_calls w v1 v2 z1 z2 h1 h2
theorem tabRsq_ok {E : Env} : TabOK Tryz.prog E tabRsq :=
  .cons (kDMg_ok (fun w v u a b h k l1 l2 => rdivMod_fn w v u a b h k l1 l2) ⟨_, Tryz.func90, by decide +kernel, by kernel_rfl⟩)
    (.cons (tabR1_ok.all (47, kII (.a2 0) (fun l m => max l m + 1)) (by simp [tabR1]))
      (.cons (kIIn_ok cmpZ (fun _ _ => rfl) (fun w v1 v2 z1 z2 h1 h2 => rcmp_calls w v1 v2 z1 z2 h1 h2) ⟨_, Tryz.func79, by decide +kernel, by kernel_rfl⟩) .nil))

/-- A variable that was just made. -/
theorem VarAt.new {E : Env} {w : World} {cs : List Chunk} {vs : List Value} {t : TypeId} (h : chunks E w cs vs) : VarAt E (w.alloc (.cells vs.toArray t)) w.heap.size cs := by
  have hk := Kp.of (B := w.heap.size) ((Ext.refl w).alloc (.cells vs.toArray t)) (Nat.le_refl _)
  have hh : (w.alloc (.cells vs.toArray t)).heap[w.heap.size]? = some (.cells vs.toArray t (0, 0)) := heap_alloc_new w _
  refine ⟨vs, chunks_keep hk h, fun i v hi => ⟨?_, ?_⟩⟩
  · simp only [World.cell?, hh]
    simpa using hi
  · simp only [World.frozen?, hh]
    simp
theorem chunks_int {E : Env} {w : World} {x y : Value} {t : IT} {l : Nat} {z : Int} (h : IsInt w (.agg #[x, y]) z) (hz : t.den E = z) (hl : Lim l z) : chunks E w [.int t l] [x, y] :=
  ⟨[x, y], [], rfl, ⟨x, y, rfl, by rw [hz]; exact h, by rw [hz]; exact hl⟩, rfl⟩
/-- Newton's method from above ends at the root. -/
theorem sq_run (n : Nat) (hn : 0 < n) : ∀ (x : Nat), 0 < x → n < (x + 1) * (x + 1) → Lim 100001 (x : Int) → ∃ m E', Run (fun _ => True) (noStk.set 0 (sqI, sqTree)) sqTree ((zE [(n : Int), 0]).upd [1] [(x : Int)]) m E' sqLeaf ∧ E'.i 1 = (isqN n : Int) := by
  intro x
  induction x using Nat.strongRecOn with
  | ind x ih =>
    intro hx hu hl
    have hq : dq (n : Int) (x : Int) = ((n / x : Nat) : Int) := by rw [dq_pos (by omega)]; exact (Int.natCast_ediv n x).symm
    have hy : sqNext.den ((zE [(n : Int), 0]).upd [1] [(x : Int)]) = (((x + n / x) / 2 : Nat) : Int) := by
      show dq ((x : Int) + dq (n : Int) (x : Int)) 2 = _
      rw [hq, dq_pos (by omega)]
      omega
    have hc : (IT.a2 3 sqNext (.var 1)).den ((zE [(n : Int), 0]).upd [1] [(x : Int)]) = cmpZ (((x + n / x) / 2 : Nat) : Int) (x : Int) := by
      show cmpZ (sqNext.den _) (x : Int) = _
      rw [hy]
    by_cases hge : x ≤ (x + n / x) / 2
    · refine ⟨0, _, .iteT ?_ .leaf, ?_⟩
      · show decide ((0 : Int) ≤ (IT.a2 3 sqNext (.var 1)).den _) = true
        rw [hc, decide_eq_true_iff]
        rcases cmpZ_cases (((x + n / x) / 2 : Nat) : Int) (x : Int) with ⟨h, e⟩ | ⟨h, e⟩ | ⟨h, e⟩ <;> omega
      · show (x : Int) = _
        rw [isqN_spec_eq (newton_stop hx hu hge)]
    · have hp := newton_pos hx hn
      have hnx := newton_next (n := n) hx
      obtain ⟨m, E', hR, hE⟩ := ih _ (by omega) hp hnx (hl.natAbs_le (by omega))
      refine ⟨m + 1, E', .iteF ?_ (.again (I := sqI) (T := sqTree) (by simp [Stk.set]) ⟨no_asm, trivial, ?_⟩ ?_), hE⟩
      · show decide ((0 : Int) ≤ (IT.a2 3 sqNext (.var 1)).den _) = false
        rw [hc, decide_eq_false_iff_not]
        rcases cmpZ_cases (((x + n / x) / 2 : Nat) : Int) (x : Int) with ⟨h, e⟩ | ⟨h, e⟩ | ⟨h, e⟩ <;> omega
      · intro p hp
        simp only [sqI, List.mem_cons, List.not_mem_nil, or_false] at hp
        subst hp
        show Lim 100001 (sqNext.den _)
        rw [hy]
        exact hl.natAbs_le (by omega)
      · have : Env.upd ((zE [(n : Int), 0]).upd [1] [(x : Int)]) sqI.vs ([sqNext].map (IT.den ((zE [(n : Int), 0]).upd [1] [(x : Int)]))) = (zE [(n : Int), 0]).upd [1] [(((x + n / x) / 2 : Nat) : Int)] := by
          simp only [List.map_cons, List.map_nil, hy]
          unfold Env.upd
          congr 1
          funext k
          simp only [sqI, updI]
          by_cases hk : k = 1
          · simp [hk]
          · simp [hk]
        rw [this]
        exact hR

set_option maxRecDepth 100000 in
set_option maxHeartbeats 1600000 in
theorem rsqrt_pos (w : World) (v : Value) (z : Int) (h : IsInt w v z) (l : Lim 100000 z) (hz : 0 < z) : Calls Tryz.prog 114 #[v] w (RetSqA z w) := by
  obtain ⟨ao, cap, s, n, rfl, h1, h2, h3, H4, H5, H6⟩ := h.open_
  obtain ⟨W, hW, eW, c0, c1, r0, r1, f0, f1⟩ := boxes1r w (.bool s) (.slice ao (limbs n).length cap) 24
  have hs : s = false := by
    cases s
    · rfl
    · have h5 := H5.out; have h6 := H6.out rfl; simp only [sgn, if_true] at h5; omega
  subst hs
  have hz2 : z = (n : Int) := H5.out
  have hl0 : 0 < (limbs n).length := limbs_pos (by omega)
  have l' := l
  unfold Lim at l'
  rw [← H4.out] at l'
  subst hz2
  obtain ⟨K, hK⟩ : ∃ K, K = ((limbs n).length + 1) / 2 := ⟨_, rfl⟩
  have hKI : (((limbs n).length : Int) + 1).tdiv 2 = (K : Int) := by rw [Int.tdiv_eq_ediv_of_nonneg (by omega)]; omega
  have hmk := run_mk K (by omega) ↑K rfl
  have hKb : K ≤ 100000 := by omega
  have hWs : W.heap.size = w.heap.size + 2 := by rw [← hW]; simp
  have HI := Lib.hid (show IsInt W (.agg #[.bool false, .slice ao (limbs n).length cap]) (n : Int) from h.ext eW)
  -- the zeros, the one, and what the append leaves
  have hown : ((W.alloc (.cells (u32s (List.replicate K 0)) 67)).alloc (.cells #[.int .u32 1] 67)).ownsRow W.heap.size 67 1 (.slice (some ⟨W.heap.size, 0, none⟩) K K) (List.replicate K 0).length ((List.replicate K 0).map fun x => Value.int .u32 ((x : Nat) : Int)) := by
    have h0 : (W.alloc (.cells (u32s (List.replicate K 0)) 67)).ownsRow W.heap.size 67 1 (.slice (some ⟨W.heap.size, 0, none⟩) K K) K ((List.replicate K 0).map fun x => Value.int .u32 ((x : Nat) : Int)) :=
      ⟨by simp, .inr ⟨W.heap.size, K, u32s (List.replicate K 0), rfl, by omega, heap_alloc_new W _, Nat.le_refl _, by unfold maxLen; omega, by simp [u32s], by rw [Nat.mul_one]; simp only [u32s]; exact List.take_of_length_le (by simp)⟩⟩
    have := h0.alloc (.cells #[.int .u32 1] 67)
    rwa [List.length_replicate]
  obtain ⟨a3, c3, w3, hrun, k1, k2, hB3, k3⟩ := run_append_own_limbs _ W.heap.size (by simp; omega) 22 _ (List.replicate K 0) (by simp; omega) (by simp; omega) hown (W.heap.size + 1) [1] 1 (by simp) (fun i hi => by
    have : i = 0 := by simpa using hi
    subst this
    simp)
  rw [List.length_replicate, show [1].length = 1 from rfl] at hrun k1
  obtain ⟨x0, hx0⟩ : ∃ x0, x0 = 1000000000 ^ K := ⟨_, rfl⟩
  have hsh := limbs_shift K 1 (by omega)
  rw [Nat.mul_one, ← hx0, limbs_of_one] at hsh
  rw [← hsh] at k3
  have hxl : K + 1 = (limbs x0).length := by rw [hsh]; simp
  have HX : Hid (IsInt w3 (.agg #[.bool false, .slice a3 (K + 1) c3]) (x0 : Int)) := by
    rw [hxl]
    exact ⟨a3, c3, by simp, by rw [Int.natAbs_natCast, ← hxl]; exact k1, k2, by rw [Int.natAbs_natCast]; exact k3⟩
  have e3 : Ext W w3 := by
    refine Below.trans ?_ hB3
    exact ((Ext.refl W).alloc _).alloc _
  have V1 : Hid (VarAt (zE [(n : Int), (x0 : Int)]) W w.heap.size [.int (.var 0) 100000]) := by
    unfold Hid
    rw [← hW]
    refine VarAt.ext (w := w.alloc (.cells #[.bool false, .slice ao (limbs n).length cap] 24)) ?_ ((Ext.refl _).alloc _)
    exact VarAt.new (vs := [_, _]) (chunks_int h rfl l)
  have V2 : Hid (VarAt (zE [(n : Int), (x0 : Int)]) W (w.heap.size + 1) [.int (.lit 0) 0]) := by
    unfold Hid
    rw [← hW]
    have := VarAt.new (E := zE [(n : Int), (x0 : Int)]) (w := w.alloc (.cells #[.bool false, .slice ao (limbs n).length cap] 24)) (vs := [_, _]) (t := 24) (chunks_int (t := .lit 0) (l := 0) (isInt_zero _) rfl lim_zero)
    rwa [World.size_alloc] at this
  have HL3 : Hid (Lim 100001 (x0 : Int)) := by unfold Hid Lim; rw [Int.natAbs_natCast, ← hxl]; omega
  have HRUN := Lib.hid hrun
  have HK := Lib.hid hK
  have Hx0 := Lib.hid hx0
  clear hK H4 H5 H6 h hrun hown hx0 hsh k1 k2 k3 hxl hB3
  go_enter Tryz.func114, Tryz.ntmps114
  have hWs2 := Lib.hid hWs
  clear hWs
  go_wp2_with (at_builtin; refine wpList_append_run' rfl _ _ 22 rfl rfl rfl HRUN.out ?_)
  obtain ⟨w4, hw4⟩ : ∃ w4, w4 = w3.alloc (.cells #[.bool false, .slice a3 (K + 1) c3] 24) := ⟨_, rfl⟩
  rw [← hw4]
  refine (rfromInt64_calls w4 2 (by decide) (by decide)).mono ?_
  rintro e w5 ⟨v5, rfl, hI5, e5⟩
  obtain ⟨ao5, cap5, s5, n5, rfl, _⟩ := IsInt.open_ hI5
  have HI5 := Lib.hid hI5
  clear hI5
  go_wp2_with fail
  have hx0p : 0 < x0 := by rw [Hx0.out]; exact Nat.pow_pos (by omega)
  have hnx : n < (x0 + 1) * (x0 + 1) := by
    refine lt_next_sq ?_
    rw [Hx0.out, ← Nat.pow_add]
    exact Nat.lt_of_lt_of_le (lt_of_limbs_len (Nat.le_refl _)) (Nat.pow_le_pow_right (by omega) (by have := HK.out; omega))
  obtain ⟨m, E', hR, hE⟩ := sq_run n (by omega) x0 hx0p hnx HL3.out
  have hup : (zE [(n : Int), (x0 : Int)]).upd sqI.vs ([IT.var 1].map (IT.den (zE [(n : Int), (x0 : Int)]))) = (zE [(n : Int), 0]).upd [1] [(x0 : Int)] := by
    unfold Env.upd
    congr 1
    funext k
    show (if k = 1 then some (x0 : Int) else none).getD (([(n : Int), (x0 : Int)]).getD k 0) = (if k = 1 then some (x0 : Int) else none).getD (([(n : Int), 0]).getD k 0)
    by_cases hk : k = 1
    · rw [if_pos hk]; rfl
    · rw [if_neg hk]
      match k, hk with
      | 0, _ => rfl
      | k + 2, _ => rfl
  have e35 : Ext w3 w5 := by
    have := (Ext.refl w3).alloc (.cells #[.bool false, .slice a3 (K + 1) c3] 24)
    rw [← hw4] at this
    exact this.trans e5
  have e6 := (Ext.refl w5).alloc (.cells #[.bool s5, .slice ao5 (limbs n5).length cap5] 24)
  have V4 : VarAt (zE [(n : Int), (x0 : Int)]) w4 w3.heap.size [.int (.var 1) 100001] := by
    rw [hw4]
    exact VarAt.new (vs := [_, _]) (chunks_int HX.out rfl HL3.out)
  have V5 := VarAt.new (E := zE [(n : Int), (x0 : Int)]) (vs := [_, _]) (t := 24) (chunks_int (t := .lit 2) (l := 3) HI5.out rfl (lim3 (by decide) (by decide)))
  have sz3 := e3.size
  have sz35 := e35.size
  have sz4 : w4.heap.size = w3.heap.size + 1 := by rw [hw4]; simp
  have sz5 := e5.size
  have hs2 := hWs2.out
  refine execL_sound (Good := fun _ => True) (C := cfgOf tabRsq) (L := fun _ => some sqI) (w0 := w) (B := w.heap.size) (n := Tryz.f114.ntmps) (l := sqLeaf) (E' := E') mixed (fun _ _ => ⟨cfg_ok tabRsq_ok, fun _ _ => True.intro⟩) _ 0 (fun _ S e => match e with | .ret => (resE (cfgOf tabRsq) S Tryz.f114.results.toList).map .leaf | _ => none) _ noStk [] ⟨lookN sqI.lk, lookN sqI.vr⟩ (.loop 0 sqI [.var 1] sqTree) (zE [(n : Int), (x0 : Int)]) m _ _ no_asm trivial ?_ (by kernel_rfl) (.loop ⟨no_asm, trivial, ?_⟩ (by rw [hup]; exact hR)) ?_
  · have hz2 : ∀ t x, lookN sqI.lk t = some x → t = 1 ∧ x = .ptr 1 0 ∨ t = 2 ∧ x = .ptr 2 0 ∨ t = 4 ∧ x = .ptr 4 0 ∨ t = 5 ∧ x = .ptr 5 0 := by
      intro t x hx
      have := lookN_mem hx
      simpa [sqI] using this
    have hz3 : ∀ t x, lookN sqI.vr t = some x → t = 1 ∧ x = [.int (.var 0) 100000] ∨ t = 2 ∧ x = [.int (.lit 0) 0] ∨ t = 4 ∧ x = [.int (.var 1) 100001] ∨ t = 5 ∧ x = [.int (.lit 2) 3] := by
      intro t x hx
      have := lookN_mem hx
      simpa [sqI] using this
    refine ⟨fun t => if t = 1 then w.heap.size else if t = 2 then w.heap.size + 1 else if t = 4 then w3.heap.size else w5.heap.size, ⟨?_, ?_, ?_, ?_, by kernel_rfl, rfl, ?_, ?_, ?_⟩⟩
    · intro t x hx
      rcases hz2 t x hx with ⟨rfl, rfl⟩ | ⟨rfl, rfl⟩ | ⟨rfl, rfl⟩ | ⟨rfl, rfl⟩ <;> rfl
    · intro t x hx
      rcases hz3 t x hx with ⟨rfl, rfl⟩ | ⟨rfl, rfl⟩ | ⟨rfl, rfl⟩ | ⟨rfl, rfl⟩
      · exact ⟨fun _ => Nat.le_refl _, (V1.out.ext (e3.trans e35)).ext e6⟩
      · exact ⟨fun _ => by show w.heap.size ≤ w.heap.size + 1; omega, (V2.out.ext (e3.trans e35)).ext e6⟩
      · exact ⟨fun _ => by show w.heap.size ≤ w3.heap.size; omega, (V4.ext e5).ext e6⟩
      · exact ⟨fun _ => by show w.heap.size ≤ w5.heap.size; omega, V5⟩
    · intro x y hx hy he
      obtain ⟨cs, hcs⟩ := Option.isSome_iff_exists.1 hx
      obtain ⟨ds, hds⟩ := Option.isSome_iff_exists.1 hy
      rcases hz3 x cs hcs with ⟨rfl, _⟩ | ⟨rfl, _⟩ | ⟨rfl, _⟩ | ⟨rfl, _⟩ <;> rcases hz3 y ds hds with ⟨rfl, _⟩ | ⟨rfl, _⟩ | ⟨rfl, _⟩ | ⟨rfl, _⟩ <;> first | rfl | (exfalso; revert he; simp; done) | (exfalso; revert he; simp; omega)
    · intro t x off hx
      rcases hz2 t _ hx with ⟨rfl, hh⟩ | ⟨rfl, hh⟩ | ⟨rfl, hh⟩ | ⟨rfl, hh⟩ <;> (injection hh with h1 h2; subst h1; rfl)
    · simp; omega
    · exact (eW.trans (e3.trans e35)).trans (Below.mono e6 (by omega))
    · intro x cs hx
      rcases hz3 x cs hx with ⟨rfl, rfl⟩ | ⟨rfl, rfl⟩ | ⟨rfl, rfl⟩ | ⟨rfl, rfl⟩ <;> decide
  · intro p hp
    simp only [sqI, List.mem_cons, List.not_mem_nil, or_false] at hp
    subst hp
    rw [hup]
    exact HL3.out
  · intro K' G' S' e T' E1 m' hm' hK' h1 hR' hG' hE' a' w' h4'
    cases e with
    | norm => cases h1
    | exit id => cases h1
    | ret =>
      obtain ⟨l', hl, rfl⟩ := Option.map_eq_some_iff.1 h1
      cases hR' with
      | leaf =>
        obtain ⟨β, v, r1, r2⟩ := resE_sound (cfg_ok tabRsq_ok) h4' (fn := Tryz.f114) (rs := Tryz.f114.results.toList) (by simp) (by decide +kernel) hl
        obtain ⟨β', hS⟩ := h4'
        refine ⟨hS.nd, v, r1, ?_⟩
        obtain ⟨vs, rfl, u1, r1, rfl, k1, u2, r2, rfl, k2, hn⟩ := r2
        simp only [tupAll] at hn
        subst hn
        have k2' := one_num.1 k2
        subst k2'
        have k1' := (one_int.1 k1).1
        refine ⟨u1, ?_, ?_, hS.bl⟩
        · show _ = Ending.returned (.tuple #[u1, .int .i64 (isqE (n : Int))])
          rw [show isqE (n : Int) = 0 from if_neg (by omega)]
          rfl
        · rw [show isq (n : Int) = (isqN n : Int) by unfold isq; rw [if_neg (by omega), Int.natAbs_natCast], ← hE]
          exact k1'

theorem open_iq {E : Env} {β : Nat → Nat} {w : World} {v : Value} {x u : IT} {l : Nat} (hx : (AV.tup [(true, [.int x l]), (false, [.n .i64 u])]).holds E β w v) : ∃ p, v = .tuple #[p, .int .i64 (u.den E)] ∧ IsInt w p (x.den E) := by
  obtain ⟨vs, rfl, u1, r1, rfl, k1, u2, r2, rfl, k2, hn⟩ := hx
  simp only [tupAll] at hn
  subst hn
  have k2' := one_num.1 k2
  subst k2'
  exact ⟨u1, rfl, (one_int.1 k1).1⟩
theorem rsqrt_any (w : World) (v : Value) (z : Int) (h : IsInt w v z) (l : Lim 100000 z) : Calls Tryz.prog 114 #[v] w (RetSqA z w) := by
  by_cases hz : 0 < z
  · exact rsqrt_pos w v z h l hz
  · by_cases h0 : z = 0
    · subst h0
      refine (fun_sound (C := cfgOf []) (E := zE []) (args := [.val true [.int (.lit 0) 0]]) (T := .leaf [(true, [.int (.lit 0) 0]), (false, [.n .i64 (.lit 0)])])
        mixed (cfg_ok .nil) no_asm Tryz.func114 (by decide +kernel) (by kernel_rfl) (by decide +kernel) rfl w [v] rfl ?_).mono ?_
      · intro i x hx
        match i, hx with
        | 0, hx => injection hx with hx; subst hx; exact ⟨fun _ => 0, v, rfl, one_int.2 ⟨h, lim_zero⟩⟩
      · rintro e w' ⟨β, u, rfl, hh, ex⟩
        obtain ⟨p, rfl, hp⟩ := open_iq hh
        exact ⟨p, rfl, hp, ex⟩
    · have hneg : z < 0 := by omega
      refine (fun_sound (C := cfgOf []) (E := zE [z]) (G := [(.lt (.var 0) (.lit 0), true)]) (args := [.val true [.int (.var 0) 100000]]) (T := .leaf [(true, [.int (.lit 0) 0]), (false, [.n .i64 (.lit 7)])])
        mixed (cfg_ok .nil) (asm_cons no_asm (by show decide (z < 0) = true; exact decide_eq_true hneg)) Tryz.func114 (by decide +kernel) (by kernel_rfl) (by decide +kernel) rfl w [v] rfl ?_).mono ?_
      · intro i x hx
        match i, hx with
        | 0, hx => injection hx with hx; subst hx; exact ⟨fun _ => 0, v, rfl, one_int.2 ⟨h, l⟩⟩
      · rintro e w' ⟨β, u, rfl, hh, ex⟩
        obtain ⟨p, rfl, hp⟩ := open_iq hh
        refine ⟨p, ?_, ?_, ex⟩
        · rw [show isqE z = 7 from if_pos hneg]; rfl
        · rw [show isq z = 0 from if_pos hneg]; exact hp

end Go.Proofs.YtmofkmdacfdejaaGreatDoor
end

/- ---- Rff ---- -/
section
/-
  RationalSqrt.
-/
set_option maxRecDepth 100000
namespace Go.Proofs.YtmofkmdacfdejaaGreatDoor
open Go.RowKit

def kSqRef : Con
  | [.val true [.int x l]], _ => if decide (l ≤ 100000) then some (.tup [(true, [.int (.a1 2 x) l]), (false, [.n .i64 (.a1 3 x)])]) else none
  | _, _ => none
theorem kSqRef_ok {E : Env} : ConOK Tryz.prog E 114 kSqRef := by
  refine ⟨?_, ?_, ⟨_, Tryz.func114, by decide +kernel, by kernel_rfl⟩⟩
  · intro args As r h hG β w vs hv hlen
    unfold kSqRef at h
    split at h
    · split at h
      · rename_i hlo
        injection h with h
        subst h
        simp only [decide_eq_true_iff] at hlo
        obtain ⟨v, rfl, h1⟩ := args1 hv hlen
        obtain ⟨i1, l1⟩ := one_int.1 h1
        refine (rsqrt_any w v _ i1 (l1.mono hlo)).mono ?_
        rintro e w' ⟨u, rfl, k1, ex⟩
        exact ⟨_, rfl, ⟨[u, .int .i64 _], rfl, u, _, rfl, one_int.2 ⟨k1, isq_lim l1⟩, _, _, rfl, one_num.2 rfl, rfl⟩, ex⟩
      · cases h
    · cases h
  · intro args As r h x off
    unfold kSqRef at h
    split at h
    · split at h
      · injection h with h; subst h; intro e; cases e
      · cases h
    · cases h
theorem open_ib' {E : Env} {β : Nat → Nat} {w : World} {v : Value} {x : IT} {k : Nat} {t : BT} (hx : (AV.tup [(true, [.int x k]), (false, [.b t])]).holds E β w v) : ∃ p, v = .tuple #[p, .bool (t.den E)] ∧ IsInt w p (x.den E) := by
  obtain ⟨vs, rfl, u1, r1, rfl, k1, u2, r2, rfl, k2, hn⟩ := hx
  simp only [tupAll] at hn
  subst hn
  have k2' := one_bool.1 k2
  subst k2'
  exact ⟨u1, rfl, (one_int.1 k1).1⟩
theorem perfect_calls (w : World) (v : Value) (z : Int) (h : IsInt w v z) (l : Lim 100000 z) :
    Calls Tryz.prog 83 #[v] w fun e w' => ∃ u, e = .returned (.tuple #[u, .bool (sqB z)]) ∧ IsInt w' u (isq z) ∧ Ext w w' := by
  refine (fun_sound (C := cfgOf ((114, kSqRef) :: (57, kIIb fun x y => .eq x y) :: tabR1)) (E := zE [z]) (args := [.val true [.int (.var 0) 100000]])
    (T := .ite (.eq (.a1 3 (.var 0)) (.lit 0)) (.leaf [(true, [.int (.a1 2 (.var 0)) 100000]), (false, [.b (.eq (.a2 2 (.a1 2 (.var 0)) (.a1 2 (.var 0))) (.var 0))])]) (.leaf [(true, [.int (.a1 2 (.var 0)) 100000]), (false, [.b (.lit false)])]))
    mixed (cfg_ok (.cons kSqRef_ok (.cons (kIIb_ok (fun x y => x == y) (fun _ _ => rfl) (fun w v1 v2 z1 z2 h1 h2 => (rsame_calls w v1 v2 z1 z2 h1 h2).mono (fun e w' h => ⟨by rw [h.1]; by_cases hz : z1 = z2 <;> simp [hz], h.2⟩)) ⟨_, Tryz.func57, by decide +kernel, by kernel_rfl⟩) tabR1_ok)))
    no_asm Tryz.func83 (by decide +kernel) (by kernel_rfl) (by decide +kernel) rfl w [v] rfl ?_).mono ?_
  · intro i x hx
    match i, hx with
    | 0, hx => injection hx with hx; subst hx; exact ⟨fun _ => 0, v, rfl, one_int.2 ⟨h, l⟩⟩
  · rintro e w' ⟨β, u, rfl, hh, ex⟩
    simp only [Tree.pick] at hh
    split at hh
    · rename_i hz
      obtain ⟨p, rfl, hp⟩ := open_ib' hh
      refine ⟨p, ?_, hp, ex⟩
      have hz' : (isqE z == 0) = true := hz
      have e1 : (BT.eq (.a2 2 (.a1 2 (.var 0)) (.a1 2 (.var 0))) (.var 0)).den (zE [z]) = (cmpZ (isq z * isq z) z == 0) := by
        show (isq z * isq z == z) = _
        rw [Bool.eq_iff_iff, beq_iff_eq, beq_iff_eq]
        rcases cmpZ_cases (isq z * isq z) z with ⟨h, e⟩ | ⟨h, e⟩ | ⟨h, e⟩ <;> rw [e] <;> omega
      rw [e1]
      unfold sqB
      rw [hz', Bool.true_and]
    · rename_i hz
      obtain ⟨p, rfl, hp⟩ := open_ib' hh
      have hz' : (isqE z == 0) = false := by
        cases hb : (isqE z == 0) with
        | false => rfl
        | true => exact absurd hb hz
      refine ⟨p, ?_, hp, ex⟩
      unfold sqB
      rw [hz', Bool.false_and]
      rfl
theorem kPf_ok {E : Env} : ConOK Tryz.prog E 83 kSqr := by
  refine ⟨?_, ?_, ⟨_, Tryz.func83, by decide +kernel, by kernel_rfl⟩⟩
  · intro args As r h hG β w vs hv hlen
    unfold kSqr at h
    split at h
    · split at h
      · rename_i hlo
        injection h with h
        subst h
        simp only [decide_eq_true_iff] at hlo
        obtain ⟨v, rfl, h1⟩ := args1 hv hlen
        obtain ⟨i1, l1⟩ := one_int.1 h1
        refine (perfect_calls w v _ i1 (l1.mono hlo)).mono ?_
        rintro e w' ⟨u, rfl, k1, ex⟩
        exact ⟨_, rfl, ⟨[u, .bool _], rfl, u, _, rfl, one_int.2 ⟨k1, isq_lim l1⟩, _, _, rfl, one_bool.2 rfl, rfl⟩, ex⟩
      · cases h
    · cases h
  · intro args As r h x off
    unfold kSqr at h
    split at h
    · split at h
      · injection h with h; subst h; intro e; cases e
      · cases h
    · cases h
theorem rsqrtQ_calls (w : World) (v : Value) (n d : Int) (h : IsPair w v n d) (l1 : Lim 100000 n) (l2 : Lim 100000 d) : Calls Tryz.prog 43 #[v] w (RetSqQ n d w) := by
  refine (fun_sound (C := cfgOf [(83, kSqr)]) (E := zE [n, d]) (args := [argQ 0]) (T := tSq)
    mixed (cfg_ok (.cons kPf_ok .nil)) no_asm Tryz.func43 (by decide +kernel) (by kernel_rfl) (by decide +kernel) rfl w [v] rfl ?_).mono ?_
  · intro i x hx
    match i, hx with
    | 0, hx => injection hx with hx; subst hx; exact ⟨fun _ => 0, v, rfl, argP_holds h l1 l2 rfl rfl⟩
  · rintro e w' ⟨β, u, rfl, hh, ex⟩
    have d0 : (BT.and (.eq (.a1 3 (.var 0)) (.lit 0)) (.eq (.a2 3 (.a2 2 (.a1 2 (.var 0)) (.a1 2 (.var 0))) (.var 0)) (.lit 0))).den (zE [n, d]) = sqB n := rfl
    have d1 : (BT.and (.eq (.a1 3 (.var 1)) (.lit 0)) (.eq (.a2 3 (.a2 2 (.a1 2 (.var 1)) (.a1 2 (.var 1))) (.var 1)) (.lit 0))).den (zE [n, d]) = sqB d := rfl
    unfold tSq at hh
    simp only [Tree.pick, d0, d1] at hh
    unfold RetSqQ sqN
    cases h0 : sqB n <;> cases h1 : sqB d <;> rw [h0, h1] at hh
    · obtain ⟨p, rfl, hp⟩ := open_qb hh
      exact ⟨p, rfl, hp, ex⟩
    · obtain ⟨p, rfl, hp⟩ := open_qb hh
      exact ⟨p, rfl, hp, ex⟩
    · obtain ⟨p, rfl, hp⟩ := open_qb hh
      exact ⟨p, rfl, hp, ex⟩
    · obtain ⟨p, rfl, hp⟩ := open_qb hh
      exact ⟨p, rfl, hp, ex⟩

/-- Squares of rational numbers. -/
theorem mul_self_parts (a : Rat) : (a * a).num = a.num * a.num ∧ (a * a).den = a.den * a.den := by
  have hc : (a.num * a.num).natAbs.Coprime (a.den * a.den) := by
    rw [Int.natAbs_mul]
    exact (Nat.Coprime.mul_left a.reduced a.reduced).symm.mul_left (Nat.Coprime.mul_left a.reduced a.reduced).symm |>.symm
  have hn : a.den * a.den ≠ 0 := Nat.mul_ne_zero a.den_nz a.den_nz
  have e : a * a = ⟨a.num * a.num, a.den * a.den, hn, hc⟩ := by
    rw [Rat.mk_eq_divInt]
    have h : Rat.divInt a.num a.den * Rat.divInt a.num a.den = a * a := by rw [Rat.num_divInt_den]
    rw [← h, Rat.divInt_mul_divInt, Int.natCast_mul]
  rw [e]
  exact ⟨rfl, rfl⟩
def ratAbs (a : Rat) : Rat := ⟨(a.num.natAbs : Int), a.den, a.den_nz, by rw [Int.natAbs_natCast]; exact a.reduced⟩
theorem isq_self (n : Int) : isq (n * n) = (n.natAbs : Int) ∧ sqB (n * n) = true := by
  have h0 : ¬ n * n < 0 := by
    have e : ((n.natAbs : Int)) * (n.natAbs : Int) = n * n := Int.natAbs_mul_self
    have h := Int.natCast_nonneg (n.natAbs * n.natAbs)
    rw [Int.natCast_mul, e] at h
    omega
  have e1 : isq (n * n) = (n.natAbs : Int) := by
    unfold isq
    rw [if_neg h0, Int.natAbs_mul]
    congr 1
    refine isqN_spec_eq ⟨Nat.le_refl _, ?_⟩
    exact Nat.mul_lt_mul'' (by omega) (by omega)
  refine ⟨e1, ?_⟩
  unfold sqB
  rw [e1]
  have e2 : ((n.natAbs : Int)) * (n.natAbs : Int) = n * n := Int.natAbs_mul_self
  rw [e2, cmpZ_eq rfl]
  unfold isqE
  rw [if_neg h0]
  rfl
theorem sqB_spec {z : Int} (h : sqB z = true) : isq z * isq z = z := by
  unfold sqB at h
  rw [Bool.and_eq_true, beq_iff_eq, beq_iff_eq] at h
  rcases cmpZ_cases (isq z * isq z) z with ⟨_, e⟩ | ⟨k, _⟩ | ⟨_, e⟩
  · have := h.2; omega
  · exact k
  · have := h.2; omega
theorem root_rat {a : Rat} (h : sqB a.num = true) (k : sqB (a.den : Int) = true) : ∃ s : Rat, s.num = isq a.num ∧ (s.den : Int) = isq (a.den : Int) := by
  have e1 := sqB_spec h
  have e2 := sqB_spec k
  have hd : (a.den : Int) ≠ 0 := den_ne a
  have hp : 0 ≤ isq (a.den : Int) := by unfold isq; split <;> omega
  have hne : (isq (a.den : Int)).natAbs ≠ 0 := by
    intro e
    have : isq (a.den : Int) = 0 := by omega
    rw [this] at e2
    omega
  have hc : (isq a.num).natAbs.Coprime (isq (a.den : Int)).natAbs := by
    have h1 : (isq a.num).natAbs * (isq a.num).natAbs = a.num.natAbs := by rw [← Int.natAbs_mul, e1]
    have h2 : (isq (a.den : Int)).natAbs * (isq (a.den : Int)).natAbs = a.den := by rw [← Int.natAbs_mul, e2, Int.natAbs_natCast]
    have hr := a.reduced
    rw [← h1, ← h2] at hr
    exact (Nat.Coprime.coprime_mul_left (Nat.Coprime.coprime_mul_left hr).symm).symm
  refine ⟨⟨isq a.num, (isq (a.den : Int)).natAbs, hne, hc⟩, rfl, ?_⟩
  show (((isq (a.den : Int)).natAbs : Nat) : Int) = _
  omega
def isV (i : Nat) : IT → Bool
  | .var j => i == j
  | _ => false
theorem isV_spec {i : Nat} {t : IT} (h : isV i t = true) : t = .var i := by
  cases t <;> simp only [isV, Bool.false_eq_true, beq_iff_eq] at h
  rw [h]
def kSqC (b : Bool) : Con
  | [.val true [.int x l, .int y m]], _ =>
    if (isV 0 x && isV 1 y) && (decide (l ≤ 6) && decide (m ≤ 6)) then some (if b then .tup [(true, [.int (.var 2) 6, .int (.var 3) 6]), (false, [.b (.lit true)])] else .tup [(true, [.int (.lit 0) 0, .int (.lit 0) 0]), (false, [.b (.lit false)])])
    else if (x.beq (qop 2 (qv 0) (qv 0)).1 && y.beq (qop 2 (qv 0) (qv 0)).2) && (decide (l ≤ 100000) && decide (m ≤ 100000)) then some (.tup [(true, [.int (.var 4) 6, .int (.var 5) 6]), (false, [.b (.lit true)])]) else none
  | _, _ => none
theorem kSqC_ok {a s : Rat} {b : Bool} (la : LimQ 6 a) (hb : (sqB a.num && sqB (a.den : Int)) = b) (hs : b = true → s.num = isq a.num ∧ (s.den : Int) = isq (a.den : Int)) {f : Nat}
    (hc : ∀ (w : World) (v : Value) (n d : Int), IsPair w v n d → Lim 100000 n → Lim 100000 d → Calls Tryz.prog f #[v] w (RetSqQ n d w))
    (hf : ∃ fn, Tryz.prog.funcs[f]? = some fn ∧ fn.name ≠ "runtime.NumGoroutine" ∧ fn.body.isNone = false) : ConOK Tryz.prog (qE [a, s, ratAbs a]) f (kSqC b) := by
  have ra : RepQ (qE [a, s, ratAbs a]) (qv 0) a := rep_v (i := 0)
  have rs : RepQ (qE [a, s, ratAbs a]) (qv 1) s := rep_v (i := 1)
  have rt : RepQ (qE [a, s, ratAbs a]) (qv 2) (ratAbs a) := rep_v (i := 2)
  have rm : RepQ (qE [a, s, ratAbs a]) (qop 2 (qv 0) (qv 0)) (a * a) := rep_op (f := 2) (by omega) ra ra
  refine ⟨?_, ?_, hf⟩
  · intro args As r h hG β w vs hv hlen
    unfold kSqC at h
    split at h
    · split at h
      · rename_i x l y m hm
        simp only [Bool.and_eq_true, decide_eq_true_iff] at hm
        obtain ⟨⟨hx, hy⟩, hl, hm⟩ := hm
        obtain rfl := isV_spec hx
        obtain rfl := isV_spec hy
        injection h with h
        subst h
        obtain ⟨v, rfl, h1⟩ := args1 hv hlen
        obtain ⟨p1, a1, a2⟩ := one_pair.1 h1
        have e1 : (IT.var 0).den (qE [a, s, ratAbs a]) = a.num := ra.1
        have e2 : (IT.var 1).den (qE [a, s, ratAbs a]) = (a.den : Int) := ra.2
        rw [e1, e2] at p1
        rw [e1] at a1
        rw [e2] at a2
        refine (hc w v _ _ p1 (a1.mono (by omega)) (a2.mono (by omega))).mono ?_
        rintro e w' ⟨u, rfl, hp, ex⟩
        unfold sqN at hp
        rw [hb] at hp ⊢
        cases b with
        | true =>
          obtain ⟨s1, s2⟩ := hs rfl
          rw [if_pos rfl, if_pos rfl, ← s1, ← s2] at hp
          refine ⟨_, rfl, ⟨[u, .bool true], rfl, u, _, rfl, one_pair.2 ⟨?_, ?_, ?_⟩, _, _, rfl, one_bool.2 rfl, rfl⟩, ex⟩
          · show IsPair w' u ((qv 1).1.den _) ((qv 1).2.den _)
            rw [rs.1, rs.2]; exact hp
          · show Lim 6 ((qv 1).1.den _)
            rw [rs.1, s1]; exact isq_lim la.1
          · show Lim 6 ((qv 1).2.den _)
            rw [rs.2, s2]; exact isq_lim la.2
        | false =>
          rw [if_neg (by decide), if_neg (by decide)] at hp
          exact ⟨_, rfl, ⟨[u, .bool false], rfl, u, _, rfl, one_pair.2 ⟨hp, lim_zero, lim_zero⟩, _, _, rfl, one_bool.2 rfl, rfl⟩, ex⟩
      · split at h
        · rename_i x l y m _ hm
          simp only [Bool.and_eq_true, decide_eq_true_iff] at hm
          obtain ⟨⟨hx, hy⟩, hl, hm⟩ := hm
          obtain rfl := IT.eq_of_beq hx
          obtain rfl := IT.eq_of_beq hy
          injection h with h
          subst h
          obtain ⟨v, rfl, h1⟩ := args1 hv hlen
          obtain ⟨p1, a1, a2⟩ := one_pair.1 h1
          obtain ⟨m1, m2⟩ := mul_self_parts a
          rw [rm.1, rm.2, m1, m2, Int.natCast_mul] at p1
          rw [rm.1, m1] at a1
          rw [rm.2, m2, Int.natCast_mul] at a2
          obtain ⟨i1, j1⟩ := isq_self a.num
          obtain ⟨i2, j2⟩ := isq_self (a.den : Int)
          refine (hc w v _ _ p1 (a1.mono hl) (a2.mono hm)).mono ?_
          rintro e w' ⟨u, rfl, hp, ex⟩
          unfold sqN at hp
          rw [j1, j2] at hp ⊢
          rw [Bool.and_self, if_pos rfl, if_pos rfl, i1, i2, Int.natAbs_natCast] at hp
          refine ⟨_, rfl, ⟨[u, .bool true], rfl, u, _, rfl, one_pair.2 ⟨?_, ?_, ?_⟩, _, _, rfl, one_bool.2 rfl, rfl⟩, ex⟩
          · show IsPair w' u ((qv 2).1.den _) ((qv 2).2.den _)
            rw [rt.1, rt.2]; exact hp
          · show Lim 6 ((qv 2).1.den _)
            rw [rt.1]
            exact la.1.natAbs_le (by show ((a.num.natAbs : Int)).natAbs ≤ _; rw [Int.natAbs_natCast]; exact Nat.le_refl _)
          · show Lim 6 ((qv 2).2.den _)
            rw [rt.2]
            exact la.2
        · cases h
    · cases h
  · intro args As r h x off
    unfold kSqC at h
    split at h
    · split at h
      · injection h with h; subst h; cases b <;> (intro e; cases e)
      · split at h
        · injection h with h; subst h; intro e; cases e
        · cases h
    · cases h
def tabSqL (b : Bool) : List (Nat × Con) := (42, kSqC b) :: (43, kSqC b) :: tabT
def sqLT : Tree :=
  .ite (.le (.lit 0) (.a2 3 (.var 4) (.lit 0))) (.ite (.and (.eq (.var 4) (.var 0)) (.eq (.var 5) (.var 1))) (leafB (.lit true)) (leafB (.and (.eq (.var 4) (.a1 0 (.var 0))) (.eq (.var 5) (.var 1))))) (leafB (.lit false))
theorem sqrt_valid {W : World → Prop} (haw : Awake W) (w : World) (hW : ∀ w', Ext w w' → W w') (v1 : Value) (a : Rat) (h1 : IsRat w v1 a) (l1 : LimQ 6 a) :
    Calls Tryz.prog 9 #[v1] w (IsTrue w) := by
  have key : ∀ (b : Bool) (s : Rat), (sqB a.num && sqB (a.den : Int)) = b → (b = true → s.num = isq a.num ∧ (s.den : Int) = isq (a.den : Int)) →
      (∀ W, funE (cfgL W (tabSqL b) (smT 1)) Tryz.f9 [] [argS 0] = some sqLT) → Calls Tryz.prog 9 #[v1] w (IsTrue w) := by
    intro b s hb hs hR
    have hsm : SmOK (qE [a, s, ratAbs a]) (smT 1) := by
      intro cs off c h w bl hv
      have h' := h
      unfold smT at h'
      split at h'
      · rename_i hbb
        simp only [Bool.and_eq_true, beq_iff_eq] at hbb
        obtain ⟨k1, k2, rfl⟩ := hbb
        have hcs := isVars_spec k1
        rw [k2] at hcs
        have hcs' : cs = [.int (.var 0) 6, .int (.var 1) 6] := hcs
        subst hcs'
        exact smT_ok1 (smQ_of l1 h1) _ _ c h w bl hv
      · cases h'
    refine (fun_sound (C := cfgL W (tabSqL b) (smT 1)) (E := qE [a, s, ratAbs a]) (args := [argS 0]) (T := sqLT)
      mixed (cfgL_ok (.cons (kSqC_ok l1 hb hs (fun w v n d h l m => sqrtQ_calls w v n d h l m) ⟨_, Tryz.func42, by decide +kernel, by kernel_rfl⟩)
        (.cons (kSqC_ok l1 hb hs (fun w v n d h l m => rsqrtQ_calls w v n d h l m) ⟨_, Tryz.func43, by decide +kernel, by kernel_rfl⟩) (tabT_ok (qE_ok _)))) haw hsm)
      no_asm Tryz.func9 (by decide +kernel) (hR W) (by decide +kernel) rfl w [v1] rfl ?_ hW).mono ?_
    · intro i x hx
      match i, hx with
      | 0, hx => injection hx with hx; subst hx; exact ⟨fun _ => 0, v1, rfl, argS_holds h1 l1 rfl rfl⟩
    · rintro e w' ⟨β, u, rfl, hh, ex⟩
      have n1 : (BT.le (.lit 0) (.a2 3 (.var 4) (.lit 0))).den (qE [a, s, ratAbs a]) = true := by
        show decide (0 ≤ cmpZ ((a.num.natAbs : Nat) : Int) 0) = true
        rw [decide_eq_true_iff]
        rcases cmpZ_cases ((a.num.natAbs : Nat) : Int) 0 with ⟨h, e⟩ | ⟨h, e⟩ | ⟨h, e⟩ <;> rw [e] <;> omega
      have n2 : (BT.and (.eq (.var 4) (.var 0)) (.eq (.var 5) (.var 1))).den (qE [a, s, ratAbs a]) = (((a.num.natAbs : Nat) : Int) == a.num && (a.den : Int) == (a.den : Int)) := rfl
      have n3 : (BT.and (.eq (.var 4) (.a1 0 (.var 0))) (.eq (.var 5) (.var 1))).den (qE [a, s, ratAbs a]) = (((a.num.natAbs : Nat) : Int) == - a.num && (a.den : Int) == (a.den : Int)) := rfl
      unfold sqLT leafB at hh
      simp only [Tree.pick] at hh
      rw [if_pos n1, n2] at hh
      by_cases hz : 0 ≤ a.num
      · have e1 : ((a.num.natAbs : Nat) : Int) = a.num := by omega
        rw [if_pos (by rw [e1]; simp)] at hh
        have := one_bool.1 hh
        subst this
        exact ⟨rfl, ex⟩
      · have e1 : ((a.num.natAbs : Nat) : Int) ≠ a.num := by omega
        have e2 : ((a.num.natAbs : Nat) : Int) = - a.num := by omega
        rw [if_neg (by rw [beq_eq_false_iff_ne.2 e1]; simp)] at hh
        have := one_bool.1 hh
        subst this
        rw [n3, e2]
        refine ⟨?_, ex⟩
        simp
  cases hb : (sqB a.num && sqB (a.den : Int)) with
  | true =>
    have hb' := hb
    rw [Bool.and_eq_true] at hb'
    obtain ⟨s, s1, s2⟩ := root_rat hb'.1 hb'.2
    exact key true s hb (fun _ => ⟨s1, s2⟩) (fun _ => by kernel_rfl)
  | false => exact key false 0 hb (fun h => by cases h) (fun _ => by kernel_rfl)
theorem lawSqrtQ_calls {W : World → Prop} (haw : Awake W) (w : World) (hW : ∀ w', Ext w w' → W w') (v1 : Value) (s1 s2 : Bool) (xs1 xs2 : List Nat) (h1 : RawQ w v1 s1 xs1 s2 xs2) :
    Calls Tryz.prog 9 #[v1] w (IsTrue w) :=
  law1_any Tryz.func9 (by decide +kernel) (by kernel_rfl) (by decide +kernel) haw w hW v1 s1 s2 xs1 xs2 h1 (fun a i1 l1 => sqrt_valid haw w hW v1 a i1 l1)
end Go.Proofs.YtmofkmdacfdejaaGreatDoor
end

/- ---- Txa ---- -/
section
/-
  Texts of rational numbers: where they are cut, and that they are what is parsed.
-/
set_option maxRecDepth 100000
namespace Go.Proofs.YtmofkmdacfdejaaGreatDoor
open Go.RowKit

def twS (l : List UInt8) : Nat := (l.takeWhile (· != 47)).length
theorem index_tw : ∀ l : List UInt8, Lib.index l [47] = if twS l < l.length then (twS l : Int) else -1
  | [] => rfl
  | c :: l => by
    have ih := index_tw l
    unfold Lib.index
    by_cases hc : c = 47
    · subst hc
      have h1 : twS (47 :: l) = 0 := rfl
      have h2 : ([47] : List UInt8).isPrefixOf (47 :: l) = true := by simp [List.isPrefixOf]
      rw [h2, if_pos rfl, h1, if_pos (by simp)]
      rfl
    · have h1 : twS (c :: l) = twS l + 1 := by
        unfold twS
        rw [List.takeWhile_cons, if_pos (by simpa using hc)]
        rfl
      have h2 : ([47] : List UInt8).isPrefixOf (c :: l) = false := by
        simp [List.isPrefixOf]
        exact fun e => hc e.symm
      rw [h2, h1, ih, List.length_cons]
      simp only [Bool.false_eq_true, if_false]
      by_cases h : twS l < l.length
      · have hb : ((twS l : Int) == -1) = false := by rw [beq_eq_false_iff_ne]; omega
        rw [if_pos h, if_pos (show twS l + 1 < l.length + 1 by omega), hb]
        simp
      · rw [if_neg h, if_neg (show ¬ twS l + 1 < l.length + 1 by omega)]
        rfl
theorem twS_le (l : List UInt8) : twS l ≤ l.length := by
  unfold twS
  exact (List.takeWhile_sublist _).length_le
theorem cut_tw (l : List UInt8) : (twS l < l.length ∧ Lib.cut l [47] = (l.take (twS l), l.drop (twS l + 1), true)) ∨ (twS l = l.length ∧ Lib.cut l [47] = (l, [], false)) := by
  unfold Lib.cut
  rw [index_tw]
  by_cases h : twS l < l.length
  · refine .inl ⟨h, ?_⟩
    rw [if_pos h, if_pos (by omega)]
    simp
  · refine .inr ⟨by have := twS_le l; omega, ?_⟩
    rw [if_neg h, if_neg (by omega)]
theorem tw_none {l : List UInt8} (h : ∀ c ∈ l, c ≠ 47) : twS l = l.length := by
  induction l with
  | nil => rfl
  | cons c l ih =>
    unfold twS at *
    rw [List.takeWhile_cons, if_pos (by simpa using h c (by simp)), List.length_cons, ih (fun x hx => h x (by simp [hx])), List.length_cons]
theorem tw_slash {a b : List UInt8} (h : ∀ c ∈ a, c ≠ 47) : twS (a ++ 47 :: b) = a.length := by
  induction a with
  | nil => rfl
  | cons c a ih =>
    unfold twS at *
    rw [List.cons_append, List.takeWhile_cons, if_pos (by simpa using h c (by simp)), List.length_cons, ih (fun x hx => h x (by simp [hx])), List.length_cons]
theorem cut_slash {a b : List UInt8} (h : ∀ c ∈ a, c ≠ 47) : Lib.cut (a ++ 47 :: b) [47] = (a, b, true) := by
  have e := tw_slash (b := b) h
  rcases cut_tw (a ++ 47 :: b) with ⟨_, k⟩ | ⟨k, _⟩
  · rw [k, e]; simp
  · rw [e] at k; simp at k
theorem cut_none {l : List UInt8} (h : ∀ c ∈ l, c ≠ 47) : Lib.cut l [47] = (l, [], false) := by
  have e := tw_none h
  rcases cut_tw l with ⟨k, _⟩ | ⟨_, k⟩
  · omega
  · exact k
theorem cut_join (l : List UInt8) : (qSl l = true → l = qNT l ++ 47 :: qDT l) ∧ (qSl l = false → qNT l = l) := by
  unfold qSl qNT qDT
  rcases cut_tw l with ⟨k, e⟩ | ⟨k, e⟩
  · rw [e]
    refine ⟨fun _ => ?_, (fun h => by cases h)⟩
    have hc : l[twS l] = 47 := by
      have : ∀ (l : List UInt8) (h : twS l < l.length), l[twS l] = 47 := by
        intro l
        induction l with
        | nil => intro h; simp at h
        | cons c l ih =>
          intro h
          by_cases hc : c = 47
          · subst hc; rfl
          · have h1 : twS (c :: l) = twS l + 1 := by
              unfold twS
              rw [List.takeWhile_cons, if_pos (by simpa using hc)]
              rfl
            simp only [h1, List.getElem_cons_succ]
            exact ih (by rw [h1, List.length_cons] at h; omega)
      exact this l k
    conv => lhs; rw [← List.take_append_drop (twS l) l, List.drop_eq_getElem_cons k, hc]
  · rw [e]
    exact ⟨(fun h => by cases h), fun _ => rfl⟩
/-- Numerals are the texts of their values. -/
theorem dec_unique : ∀ (k : Nat) (d : List UInt8), d.length = k → d.all digB = true → d ≠ [] → (d.headD 0 = 48 → d.length = 1) → Lib.decDigits (dv d) = d := by
  intro k
  induction k with
  | zero => intro d h _ hne _; exact absurd (List.eq_nil_of_length_eq_zero h) hne
  | succ k ih =>
    intro d hl hall hne hh
    obtain ⟨d', c, rfl⟩ : ∃ d' c, d = d' ++ [c] := ⟨d.dropLast, d.getLast hne, (List.dropLast_concat_getLast hne).symm⟩
    rw [List.length_append, List.length_singleton] at hl
    rw [List.all_append, Bool.and_eq_true] at hall
    have hc : digB c = true := by simpa using hall.2
    unfold digB at hc
    rw [Bool.and_eq_true, decide_eq_true_iff, decide_eq_true_iff] at hc
    have hc2 : UInt8.ofNat (48 + (c.toNat - 48)) = c := by
      rw [show 48 + (c.toNat - 48) = c.toNat by omega]
      simp
    rw [dv_snoc]
    cases hd : d' with
    | nil =>
      have : dv ([] : List UInt8) = 0 := rfl
      rw [this, Nat.zero_mul, Nat.zero_add, Lib.decDigits_one (by omega), hc2]
      rfl
    | cons x r =>
      have hne' : d' ≠ [] := by rw [hd]; simp
      have hhead : (d' ++ [c]).headD 0 = d'.headD 0 := by rw [hd]; rfl
      have hx : d'.headD 0 ≠ 48 := by
        intro e
        have := hh (by rw [hhead]; exact e)
        rw [List.length_append, hd] at this
        simp at this
      have i := ih d' (by omega) hall.1 hne' (fun e => absurd e hx)
      have hpos : 0 < dv d' := by
        rcases Nat.eq_zero_or_pos (dv d') with h0 | h0
        · rw [h0] at i
          have e0 : Lib.decDigits 0 = [48] := Lib.decDigits_one (by omega)
          rw [e0] at i
          rw [← i] at hx
          exact absurd rfl hx
        · exact h0
      rw [← hd]
      rw [Lib.decDigits, dif_neg (by omega), show (dv d' * 10 + (c.toNat - 48)) / 10 = dv d' by omega, show (dv d' * 10 + (c.toNat - 48)) % 10 = c.toNat - 48 by omega, i, hc2]
theorem itoa_parse {l : List UInt8} (h : parseOK l = true) : Lib.itoa (parseV l) = l := by
  have hd := digL_all h
  unfold parseOK at h
  simp only [Bool.and_eq_true, Bool.not_eq_true', Bool.and_eq_false_iff] at h
  obtain ⟨_, hn, hz⟩ := h
  unfold numB at hn
  simp only [Bool.and_eq_true, Bool.not_eq_true', Bool.and_eq_false_iff, decide_eq_false_iff_not] at hn
  obtain ⟨hn1, hn2, _⟩ := hn
  have hne : digL l ≠ [] := by intro e; rw [e] at hn1; cases hn1
  have hu := dec_unique _ (digL l) rfl hd hne (fun e => by
    rcases hn2 with hn2 | hn2
    · rw [e] at hn2; cases hn2
    · have : (digL l).length ≠ 0 := fun e0 => hne (List.eq_nil_of_length_eq_zero e0)
      omega)
  unfold parseV
  cases hg : negL l with
  | false =>
    have hl : digL l = l := by
      cases l with
      | nil => rfl
      | cons c r =>
        obtain ⟨e1, e2⟩ := negL_cons c r
        rw [e1] at hg
        rw [e2, hg]; rfl
    show Lib.itoa ((dv (digL l) : Nat) : Int) = l
    rw [Lib.itoa_nonneg, hu, hl]
  | true =>
    have hl : l = 45 :: digL l := by
      cases l with
      | nil => cases hg
      | cons c r =>
        obtain ⟨e1, e2⟩ := negL_cons c r
        rw [e1] at hg
        rw [hg] at e2
        have hc : c = 45 := by simpa using hg
        rw [hc] at e2 ⊢
        exact congrArg (List.cons 45) e2.symm
    have hpos : 1 ≤ dv (digL l) := by
      rcases Nat.eq_zero_or_pos (dv (digL l)) with h0 | h0
      · rw [h0] at hu
        have e0 : Lib.decDigits 0 = [48] := Lib.decDigits_one (by omega)
        rw [e0] at hu
        rcases hz with hz | hz
        · rw [hz] at hg; cases hg
        · rw [← hu] at hz; simp at hz
      · exact h0
    show Lib.itoa (-((dv (digL l) : Nat) : Int)) = l
    rw [Lib.itoa_neg _ hpos, hu, ← hl]
theorem itoa_noslash (z : Int) : ∀ c ∈ Lib.itoa z, c ≠ 47 := by
  have key : ∀ (n : Nat) (c : UInt8), c ∈ Lib.decDigits n → c ≠ 47 := by
    intro n c hc e
    have h1 := (dec_spec (n + 1) n (by
      have := Nat.lt_pow_self (n := n) (show 1 < 10 by omega)
      rw [Nat.pow_succ]; omega)).1
    have := List.all_eq_true.1 h1 c hc
    rw [e] at this
    exact absurd this (by decide)
  intro c hc
  unfold Lib.itoa at hc
  split at hc
  · rcases List.mem_cons.1 hc with rfl | hc
    · decide
    · exact key _ c hc
  · exact key _ c hc
end Go.Proofs.YtmofkmdacfdejaaGreatDoor
end

/- ---- Txb ---- -/
section
/-
  Format and Parse of the reference on rational numbers.
-/
set_option maxRecDepth 100000
namespace Go.Proofs.YtmofkmdacfdejaaGreatDoor
open Go.RowKit

theorem kFmtR_ok {E : Env} : ConOK Tryz.prog E 95 kFmt := by
  refine ⟨?_, ?_, ⟨_, Tryz.func95, by decide +kernel, by kernel_rfl⟩⟩
  · intro args As r h hG β w vs hv hlen
    unfold kFmt at h
    split at h
    · split at h
      · rename_i hm
        have hm' := of_decide_eq_true hm
        injection h with h
        subst h
        obtain ⟨v, rfl, h1⟩ := args1 hv hlen
        obtain ⟨i1, l1⟩ := one_int.1 h1
        refine (rformat_calls w v _ i1 (l1.mono hm')).mono ?_
        rintro e w' ⟨rfl, ex⟩
        exact ⟨_, rfl, one_str.2 ⟨rfl, itoa_len l1⟩, ex⟩
      · cases h
    · cases h
  · intro args As r h x off
    unfold kFmt at h
    split at h
    · split at h
      · injection h with h; subst h; intro e; cases e
      · cases h
    · cases h
def tabRF : List (Nat × Con) := (95, kFmt) :: (57, kIIb fun x y => .eq x y) :: tabR3 false
theorem tabRF_ok {E : Env} : TabOK Tryz.prog E tabRF :=
  .cons kFmtR_ok (.cons (kIIb_ok (fun x y => x == y) (fun _ _ => rfl) (fun w v1 v2 z1 z2 h1 h2 => (rsame_calls w v1 v2 z1 z2 h1 h2).mono (fun e w' h => ⟨by rw [h.1]; by_cases hz : z1 = z2 <;> simp [hz], h.2⟩)) ⟨_, Tryz.func57, by decide +kernel, by kernel_rfl⟩) (tabR3_ok (fun h => by cases h)))
theorem rformatQ_calls (w : World) (v : Value) (n d : Int) (h : IsPair w v n d) (l1 : Lim 100000 n) (l2 : Lim 100000 d) :
    Calls Tryz.prog 54 #[v] w fun e w' => e = .returned (.string ⟨(fmtQ n d).toArray⟩) ∧ Ext w w' := by
  refine (fun_sound (C := cfgOf tabRF) (E := zE [n, d]) (args := [argQ 0]) (T := .ite (.eq (.var 1) (.lit 1)) (.leaf [(false, [.str (.fmt (.var 0)) 900002])]) (.leaf [(false, [.str (.cat (.cat (.fmt (.var 0)) (.lit [47])) (.fmt (.var 1))) 1800005])]))
    mixed (cfg_ok tabRF_ok) no_asm Tryz.func54 (by decide +kernel) (by kernel_rfl) (by decide +kernel) rfl w [v] rfl ?_).mono ?_
  · intro i x hx
    match i, hx with
    | 0, hx => injection hx with hx; subst hx; exact ⟨fun _ => 0, v, rfl, argP_holds h l1 l2 rfl rfl⟩
  · rintro e w' ⟨β, u, rfl, hh, ex⟩
    have d0 : (BT.eq (.var 1) (.lit 1)).den (zE [n, d]) = (d == 1) := rfl
    simp only [Tree.pick, d0] at hh
    split at hh
    · rename_i hd
      have hd' : d = 1 := by simpa using hd
      obtain ⟨rfl, _⟩ := one_str.1 hh
      exact ⟨by unfold fmtQ; rw [if_pos hd']; rfl, ex⟩
    · rename_i hd
      have hd' : d ≠ 1 := by simpa using hd
      obtain ⟨rfl, _⟩ := one_str.1 hh
      exact ⟨by unfold fmtQ; rw [if_neg hd']; rfl, ex⟩
theorem pZ_itoa {z : Int} (h : (Lib.itoa z).length ≤ 65536) : parseOK (Lib.itoa z) = true ∧ pZ (Lib.itoa z) = z := by
  obtain ⟨k1, k2⟩ := parse_itoa z h
  refine ⟨k1, ?_⟩
  unfold pZ
  rw [if_pos k1, k2]
theorem fmtQ_cut (n d : Int) : Lib.cut (fmtQ n d) [47] = if d = 1 then (Lib.itoa n, [], false) else (Lib.itoa n, Lib.itoa d, true) := by
  unfold fmtQ
  by_cases hd : d = 1
  · rw [if_pos hd, if_pos hd]
    exact cut_none (itoa_noslash n)
  · rw [if_neg hd, if_neg hd, List.append_assoc]
    exact cut_slash (itoa_noslash n)
/-- The text of a number in lowest terms is read as that number. -/
theorem parse_fmt (n d : Int) (h1 : (Lib.itoa n).length ≤ 65536) (h2 : (Lib.itoa d).length ≤ 65536) (hc : coB n d = true) : qOK (fmtQ n d) = true ∧ qNV (fmtQ n d) = n ∧ qDV (fmtQ n d) = d := by
  obtain ⟨a1, a2⟩ := pZ_itoa h1
  obtain ⟨b1, b2⟩ := pZ_itoa h2
  have hcut := fmtQ_cut n d
  have hok : qOK (fmtQ n d) = true := by
    unfold qOK qSl qNT qDT
    rw [hcut]
    by_cases hd : d = 1
    · rw [if_pos hd]; exact a1
    · rw [if_neg hd]
      show (if true = true then _ else _) = true
      rw [if_pos rfl]
      show (parseOK (Lib.itoa n) && (parseOK (Lib.itoa d) && (!(pZ (Lib.itoa d) == 1) && coB (pZ (Lib.itoa n)) (pZ (Lib.itoa d))))) = true
      rw [a1, b1, a2, b2, hc, beq_eq_false_iff_ne.2 hd]
      rfl
  refine ⟨hok, ?_, ?_⟩
  · unfold qNV
    rw [if_pos hok]
    unfold qNT
    rw [hcut]
    by_cases hd : d = 1
    · rw [if_pos hd]; exact a2
    · rw [if_neg hd]; exact a2
  · unfold qDV
    rw [if_pos hok]
    unfold qSl qDT
    rw [hcut]
    by_cases hd : d = 1
    · rw [if_pos hd]; exact hd.symm
    · rw [if_neg hd]; exact b2
def rQ (l : List UInt8) : Int := if qSl l then pZ (qDT l) else 1
theorem coB_parts {n d : Int} (h : coB n d = true) : (Rat.divInt n d).num = n ∧ ((Rat.divInt n d).den : Int) = d ∧ 0 < d := by
  unfold coB at h
  simp only [Bool.and_eq_true, decide_eq_true_iff, beq_iff_eq] at h
  obtain ⟨h1, h2⟩ := h
  have hg : Nat.gcd n.natAbs d.natAbs = 1 := by omega
  have e : Rat.divInt n d = ⟨n, d.natAbs, by omega, hg⟩ := by
    rw [Rat.mk_eq_divInt]
    congr 1
    omega
  rw [e]
  refine ⟨rfl, ?_, h1⟩
  show ((d.natAbs : Nat) : Int) = d
  omega
theorem pZ_text {l : List UInt8} (h : parseOK l = true) : Lib.itoa (pZ l) = l := by
  unfold pZ
  rw [if_pos h, itoa_parse h]
/-- The reference reads what is the text of what it reads. -/
theorem ref_iff {l : List UInt8} (h1 : parseOK (qNT l) = true) (h2 : qSl l = true → parseOK (qDT l) = true) (hq : 0 < rQ l) :
    (fmtQ (Rat.divInt (pZ (qNT l)) (rQ l)).num (Rat.divInt (pZ (qNT l)) (rQ l)).den = l ↔ qOK l = true) ∧ (qOK l = true → (Rat.divInt (pZ (qNT l)) (rQ l)).num = qNV l ∧ ((Rat.divInt (pZ (qNT l)) (rQ l)).den : Int) = qDV l) := by
  obtain ⟨j1, j2⟩ := cut_join l
  cases hs : qSl l with
  | false =>
    have hr : rQ l = 1 := by unfold rQ; rw [hs]; rfl
    have hc : coB (pZ (qNT l)) 1 = true := by
      unfold coB
      simp
    obtain ⟨k1, k2, _⟩ := coB_parts hc
    have hok : qOK l = true := by unfold qOK; rw [hs]; exact h1
    rw [hr, k1, k2]
    refine ⟨⟨fun _ => hok, fun _ => ?_⟩, fun _ => ?_⟩
    · unfold fmtQ
      rw [if_pos rfl, pZ_text h1, j2 hs]
    · unfold qNV qDV
      rw [if_pos hok, if_pos hok, hs]
      exact ⟨rfl, rfl⟩
  | true =>
    have hr : rQ l = pZ (qDT l) := by unfold rQ; rw [hs]; rfl
    have hd := h2 hs
    have hl := j1 hs
    have fwd : qOK l = true → coB (pZ (qNT l)) (pZ (qDT l)) = true ∧ pZ (qDT l) ≠ 1 := by
      intro h
      unfold qOK at h
      rw [hs, if_pos rfl] at h
      simp only [Bool.and_eq_true, Bool.not_eq_true', beq_eq_false_iff_ne] at h
      exact ⟨h.2.2.2, h.2.2.1⟩
    rw [hr]
    refine ⟨⟨fun e => ?_, fun h => ?_⟩, fun h => ?_⟩
    · generalize hN : (Rat.divInt (pZ (qNT l)) (pZ (qDT l))).num = N at e
      generalize hD : ((Rat.divInt (pZ (qNT l)) (pZ (qDT l))).den : Int) = D at e
      have hcut := fmtQ_cut N D
      rw [e] at hcut
      have hD1 : D ≠ 1 := by
        intro e1
        rw [if_pos e1] at hcut
        unfold qSl at hs
        rw [hcut] at hs
        cases hs
      rw [if_neg hD1] at hcut
      have e1 : qNT l = Lib.itoa N := by unfold qNT; rw [hcut]
      have e2 : qDT l = Lib.itoa D := by unfold qDT; rw [hcut]
      have p1 : pZ (qNT l) = N := by
        have hb : (Lib.itoa N).length ≤ 65536 := by
          rw [← e1]
          unfold parseOK at h1
          simp only [Bool.and_eq_true, decide_eq_true_iff] at h1
          exact h1.1
        rw [e1]; exact (pZ_itoa hb).2
      have p2 : pZ (qDT l) = D := by
        have hb : (Lib.itoa D).length ≤ 65536 := by
          rw [← e2]
          unfold parseOK at hd
          simp only [Bool.and_eq_true, decide_eq_true_iff] at hd
          exact hd.1
        rw [e2]; exact (pZ_itoa hb).2
      have hco : coB N D = true := by
        unfold coB
        have r := (Rat.divInt (pZ (qNT l)) (pZ (qDT l))).reduced
        have hp := (Rat.divInt (pZ (qNT l)) (pZ (qDT l))).den_pos
        rw [hN] at r
        have hD' : (Rat.divInt (pZ (qNT l)) (pZ (qDT l))).den = D.natAbs := by omega
        rw [hD'] at r
        have r' : Nat.gcd N.natAbs D.natAbs = 1 := r
        rw [r', decide_eq_true (by omega)]
        rfl
      unfold qOK
      rw [hs, if_pos rfl, h1, hd, p1, p2, hco, beq_eq_false_iff_ne.2 hD1]
      rfl
    · obtain ⟨hc, hn⟩ := fwd h
      obtain ⟨k1, k2, _⟩ := coB_parts hc
      rw [k1, k2]
      unfold fmtQ
      rw [if_neg hn, pZ_text h1, pZ_text hd, List.append_assoc]
      exact hl.symm
    · obtain ⟨hc, hn⟩ := fwd h
      obtain ⟨k1, k2, _⟩ := coB_parts hc
      unfold qNV qDV
      rw [k1, k2, if_pos h, if_pos h, hs]
      exact ⟨rfl, rfl⟩
theorem ref_bad {l : List UInt8} (h : ¬ (parseOK (qNT l) = true ∧ (qSl l = true → parseOK (qDT l) = true) ∧ 0 < rQ l)) : qOK l = false := by
  rw [Bool.eq_false_iff]
  intro hok
  apply h
  unfold qOK at hok
  unfold rQ
  cases hs : qSl l with
  | false =>
    rw [hs] at hok
    exact ⟨hok, (fun h => by cases h), by rw [if_neg (by decide)]; decide⟩
  | true =>
    rw [hs, if_pos rfl] at hok
    simp only [Bool.and_eq_true] at hok
    refine ⟨hok.1, fun _ => hok.2.1, ?_⟩
    exact (coB_parts hok.2.2.2).2.2
theorem IsInt.store {w : World} {v : Value} {z : Int} {p : Addr} {u : Value} (h : IsInt w v z) (hp : w.cell? p = some u) (hu : ∀ x, u ≠ .int .u32 x) (x : Value) : IsInt (w.setCell p x) v z := by
  obtain ⟨ao, cap, h1, h2, h3, h4⟩ := h
  exact ⟨ao, cap, h1, h2, h3, h4.store hp hu x⟩
theorem res_new4 (w : World) (t : TypeId) : ∃ W, w.alloc (.cells #[.bool false, .slice none 0 0, .bool false, .slice none 0 0] t) = W ∧ Ext w W ∧ W.heap.size = w.heap.size + 1 ∧
    W.cell? ⟨w.heap.size, 0, none⟩ = some (.bool false) ∧ W.cell? ⟨w.heap.size, 1, none⟩ = some (.slice none 0 0) ∧ W.cell? ⟨w.heap.size, 2, none⟩ = some (.bool false) ∧ W.cell? ⟨w.heap.size, 3, none⟩ = some (.slice none 0 0) ∧
    ∀ i, W.frozen? ⟨w.heap.size, i, none⟩ = false := by
  refine ⟨_, rfl, (Ext.refl w).alloc _, by simp, by simp, by simp, by simp, by simp, fun i => ?_⟩
  show (match (w.heap.push _)[w.heap.size]? with | some (.cells _ _ (lo, hi)) => _ | _ => _) = _
  rw [Array.getElem?_push_size]
  simp
end Go.Proofs.YtmofkmdacfdejaaGreatDoor
end

/- ---- Txc ---- -/
section
/-
  Parse of the reference on rational numbers: the walk.
-/
set_option maxRecDepth 100000
namespace Go.Proofs.YtmofkmdacfdejaaGreatDoor
open Go.RowKit Go.Shelf

theorem rparse_at (w : World) (s : ByteArray) (l : List UInt8) (hl : s.data.toList = l) (hs : l.length ≤ 65536) : Calls Tryz.prog 96 #[.string s] w fun e w' => ∃ v, e = .returned (.tuple #[v, .int .i64 (pE l)]) ∧ IsInt w' v (pZ l) ∧ Ext w w' := by
  subst hl
  refine (rparse_calls w s (by rw [bytes_len] at hs; omega)).mono ?_
  rintro e w' ⟨v, h1, h2, h3⟩
  exact ⟨v, h1, h2, h3⟩
theorem tw_step (l : List UInt8) (k : Nat) (h : k < l.length) : (l[k] = 47 → twS (l.drop k) = 0) ∧ (l[k] ≠ 47 → twS (l.drop k) = twS (l.drop (k + 1)) + 1) := by
  rw [List.drop_eq_getElem_cons h]
  constructor
  · intro e; rw [e]; rfl
  · intro e
    unfold twS
    rw [List.takeWhile_cons, if_pos (by simpa using e)]
    rfl
/-- The result of Parse, in four cells. -/
structure Res4 (B : Nat) (w : World) : Prop where
  c0 : w.cell? ⟨B, 0, none⟩ = some (.bool false)
  c1 : w.cell? ⟨B, 1, none⟩ = some (.slice none 0 0)
  c2 : w.cell? ⟨B, 2, none⟩ = some (.bool false)
  c3 : w.cell? ⟨B, 3, none⟩ = some (.slice none 0 0)
  f0 : w.frozen? ⟨B, 0, none⟩ = false
  f1 : w.frozen? ⟨B, 1, none⟩ = false
  f2 : w.frozen? ⟨B, 2, none⟩ = false
  f3 : w.frozen? ⟨B, 3, none⟩ = false
theorem Res4.ext {B : Nat} {w w' : World} (h : Res4 B w) (e : Ext w w') : Res4 B w' :=
  ⟨e.cell h.c0, e.cell h.c1, e.cell h.c2, e.cell h.c3, e.frozen (lt_of_cell h.c0) h.f0, e.frozen (lt_of_cell h.c1) h.f1, e.frozen (lt_of_cell h.c2) h.f2, e.frozen (lt_of_cell h.c3) h.f3⟩
def put4 (w : World) (B : Nat) (a b c d : Value) : World := (((w.setCell ⟨B, 0, none⟩ a).setCell ⟨B, 1, none⟩ b).setCell ⟨B, 2, none⟩ c).setCell ⟨B, 3, none⟩ d
theorem Res4.put {B : Nat} {w : World} (h : Res4 B w) {v : Value} {z : Int} (hI : IsInt w v z) (a b c d : Value) : IsInt (put4 w B a b c d) v z := by
  unfold put4
  have k1 := hI.store h.c0 (by simp) a
  have k2 := k1.store (p := ⟨B, 1, none⟩) (by rw [World.cell?_setCell_other _ _ _ _ (by simp)]; exact h.c1) (by simp) b
  have k3 := k2.store (p := ⟨B, 2, none⟩) (by rw [World.cell?_setCell_other _ _ _ _ (by simp), World.cell?_setCell_other _ _ _ _ (by simp)]; exact h.c2) (by simp) c
  exact k3.store (p := ⟨B, 3, none⟩) (by rw [World.cell?_setCell_other _ _ _ _ (by simp), World.cell?_setCell_other _ _ _ _ (by simp), World.cell?_setCell_other _ _ _ _ (by simp)]; exact h.c3) (by simp) d
theorem put4_ext {w w2 : World} {B : Nat} (e : Ext w w2) (h : w.heap.size ≤ B) (a b c d : Value) : Ext w (put4 w2 B a b c d) :=
  (((e.setCell (p := ⟨B, 0, none⟩) h a).setCell (p := ⟨B, 1, none⟩) h b).setCell (p := ⟨B, 2, none⟩) h c).setCell (p := ⟨B, 3, none⟩) h d
theorem box_at {a w : World} {s : Bool} {ao : Option Addr} {n c : Nat} {q : Int} {t : TypeId} (E : Ext a w) (h : IsInt w (.agg #[.bool s, .slice ao n c]) q) :
    Ext a (w.alloc (.cells #[.bool s, .slice ao n c] t)) ∧ BoxInt (w.alloc (.cells #[.bool s, .slice ao n c] t)) (.pointer (some ⟨w.heap.size, 0, none⟩)) q := by
  have e1 := (Ext.refl w).alloc (.cells #[.bool s, .slice ao n c] t)
  have n1 := struct_new w (.bool s) (.slice ao n c) t
  exact ⟨E.trans e1, ⟨_, _, _, _, _, rfl, n1.1, n1.2, h.ext e1⟩⟩

set_option maxRecDepth 100000 in
set_option maxHeartbeats 6400000 in
theorem rparseQ_calls (w : World) (s : ByteArray) (hs : s.data.toList.length ≤ 65536) : Calls Tryz.prog 55 #[.string s] w (RetPQ s.data.toList w) := by
  obtain ⟨W, hW, eW, hz, r0, r1, r2, r3, ff⟩ := res_new4 w 29
  have HR4 : Res4 w.heap.size W := ⟨r0, r1, r2, r3, ff 0, ff 1, ff 2, ff 3⟩
  obtain ⟨l, hl⟩ : ∃ l, l = s.data.toList := ⟨_, rfl⟩
  rw [← hl] at hs ⊢
  have hlen : l.length = s.size := by rw [hl, bytes_len]
  have HLN := Lib.hid hlen
  have HLL := Lib.hid hl
  have HS := Lib.hid hs
  have HE := Lib.hid eW
  have hsb : (s.size : Int) ≤ 65536 := by omega
  clear hs hl hlen eW hz r0 r1 r2 r3 ff
  go_enter Tryz.func55, Tryz.ntmps55
  go_wp2_with fail
  clear hW
  go_loop [4, 5] (fun sl i => ∃ k : Nat, k ≤ s.size ∧ i = .int .i64 ((k : Int) - 1) ∧ sl = .int .i64 ((k + twS (l.drop k) : Nat) : Int)) (fun _ i => (intOf i + 1).toNat)
  case atStart =>
    refine ⟨s.size, Nat.le_refl _, by go_num, ?_⟩
    rw [List.drop_of_length_le (by have := HLN.out; omega)]
    rfl
  case round =>
    obtain ⟨k, hk, rfl, rfl⟩ := hrel
    rcases k with _ | k
    · obtain ⟨m, hm⟩ : ∃ m, m = twS l := ⟨_, rfl⟩
      have e0 : 0 + twS (l.drop 0) = m := by rw [hm, List.drop_zero, Nat.zero_add]
      rw [e0]
      have hml : m ≤ s.size := by rw [hm, ← HLN.out]; exact twS_le l
      have hmI : (m : Int) ≤ (s.size : Int) := by omega
      have hNT : Hid (l.take m = qNT l) := by
        unfold Hid qNT
        rcases cut_tw l with ⟨k1, k2⟩ | ⟨k1, k2⟩
        · rw [k2, hm]
        · rw [k2, hm, k1, List.take_of_length_le (Nat.le_refl _)]
      have hsl : (m < s.size ∧ qSl l = true ∧ qDT l = l.drop (m + 1)) ∨ (m = s.size ∧ qSl l = false) := by
        unfold qSl qDT
        rw [hm, ← HLN.out]
        rcases cut_tw l with ⟨k1, k2⟩ | ⟨k1, k2⟩
        · rw [k2]; exact .inl ⟨k1, rfl, rfl⟩
        · rw [k2]; exact .inr ⟨k1, rfl⟩
      have HSL := Lib.hid hsl
      clear e0 hm hsl hml
      go_upto_region 7 with fail
      go_cut [6, 7] (fun p r wx => Ext W wx ∧ BoxInt wx p (pZ (qNT l)) ∧ r = .int .i64 (pE (qNT l)))
      case first =>
        go_wp2_with fail
        refine (rparse_at _ _ (qNT l) (by rw [extract_list, List.drop_zero, ← HLL.out]; exact hNT.out) (by rw [← hNT.out, List.length_take]; have := HS.out; omega)).mono ?_
        rintro e w1 ⟨v1, rfl, i1, e1⟩
        obtain ⟨ao1, cap1, sg1, n1, rfl, _⟩ := IsInt.open_ i1
        go_wp2_with fail
        go_meet
        have B := box_at (t := 24) e1 i1
        exact ⟨B.1, B.2, rfl⟩
      case rest =>
        obtain ⟨w1, rfl⟩ : ∃ w1, w1 = wc := ⟨_, rfl⟩
        obtain ⟨e1, ⟨b5, s5, a5, n5, p5, rfl, x0, x1, i5⟩, rfl⟩ := hcut
        have R1 := HR4.ext e1
        have HE1 := Lib.hid (HE.out.trans e1)
        clear HR4 e1
        go_upto_region 8 with fail
        go_cut [8, 9] (fun p r wx => Ext w1 wx ∧ r = .int .i64 0 ∧ ∃ b s a n c, p = .pointer (some ⟨b, 0, none⟩) ∧ w1.heap.size ≤ b ∧ wx.cell? ⟨b, 0, none⟩ = some (.bool s) ∧ wx.cell? ⟨b, 1, none⟩ = some (.slice a n c) ∧ IsInt wx (.agg #[.bool s, .slice a n c]) 1 ∧ wx.frozen? ⟨b, 0, none⟩ = false ∧ wx.frozen? ⟨b, 1, none⟩ = false)
        case first =>
          go_wp2_with fail
          refine (unit_calls _).mono ?_
          rintro e w2 ⟨v2, rfl, i2, e2⟩
          obtain ⟨ao2, cap2, sg2, n2, rfl, _⟩ := IsInt.open_ i2
          go_wp2_with fail
          go_meet
          have e3 := (Ext.refl w2).alloc (.cells #[.bool sg2, .slice ao2 (limbs n2).length cap2] 24)
          have n3 := struct_new w2 (.bool sg2) (.slice ao2 (limbs n2).length cap2) 24
          have hh := heap_alloc_new w2 (.cells #[.bool sg2, .slice ao2 (limbs n2).length cap2] 24)
          refine ⟨e2.trans e3, rfl, _, _, _, _, _, rfl, e2.size, n3.1, n3.2, i2.ext e3, ?_, ?_⟩
          · simp only [World.frozen?, hh]; simp
          · simp only [World.frozen?, hh]; simp
        case rest =>
          obtain ⟨w2, rfl⟩ : ∃ w2, w2 = wc := ⟨_, rfl⟩
          obtain ⟨e2, rfl, b8, s8, a8, n8, p8, rfl, hb8, y0, y1, i8, g0, g1⟩ := hcut
          have hb5 : b5 < w1.heap.size := lt_of_cell x0
          obtain ⟨EQ, hEQ⟩ : ∃ EQ : Int, EQ = if qSl l then pE (qDT l) else 0 := ⟨_, rfl⟩
          have HEQ := Lib.hid hEQ
          clear hEQ
          go_upto_if 36 with fail
          go_cut [9] (fun f wx => Ext w1 wx ∧ BoxInt wx (.pointer (some ⟨b8, 0, none⟩)) (rQ l) ∧ f = .int .i64 EQ)
          case first =>
            rcases HSL.out with ⟨q1, q2, q3⟩ | ⟨q1, q2⟩
            · have hmlt : (m : Int) < (s.size : Int) := by omega
              have HQ3 := Lib.hid q3
              have HQR : Hid (rQ l = pZ (qDT l) ∧ EQ = pE (qDT l)) := by
                refine ⟨?_, ?_⟩
                · unfold rQ; rw [if_pos q2]
                · rw [HEQ.out, if_pos q2]
              clear q1 q2 q3
              go_wp2_with fail
              refine (rparse_at _ _ (qDT l) (by rw [extract_list, bytes_all, ← HLL.out]; exact HQ3.out.symm) (by rw [HQ3.out, List.length_drop]; have := HS.out; omega)).mono ?_
              rintro e w3 ⟨v3, rfl, i3, e3⟩
              rw [← HQR.out.1] at i3
              rw [← HQR.out.2]
              obtain ⟨ao3, cap3, sg3, n3, rfl, _⟩ := IsInt.open_ i3
              replace g0 := e3.frozen (lt_of_cell y0) g0
              replace g1 := e3.frozen (lt_of_cell y1) g1
              replace y0 := e3.cell y0
              replace y1 := e3.cell y1
              go_wp2_with fail
              go_meet
              exact ⟨((e2.trans e3).setCell (p := ⟨b8, 0, none⟩) hb8 _).setCell (p := ⟨b8, 1, none⟩) hb8 _, boxInt_put y0 y1 i3, rfl⟩
            · have hmlt : ¬ (m : Int) < (s.size : Int) := by omega
              have HQR : Hid (rQ l = 1 ∧ EQ = 0) := by
                refine ⟨?_, ?_⟩
                · unfold rQ; rw [q2]; rfl
                · rw [HEQ.out, q2]; rfl
              clear q1 q2
              go_wp2_with fail
              go_meet
              rw [HQR.out.1, HQR.out.2]
              exact ⟨e2, ⟨_, _, _, _, _, rfl, y0, y1, i8⟩, rfl⟩
          case rest =>
            obtain ⟨w3, rfl⟩ : ∃ w3, w3 = wc := ⟨_, rfl⟩
            obtain ⟨e3, ⟨b9, s9, a9, n9, p9, hb9, y0', y1', i9⟩, rfl⟩ := hcut
            injection hb9 with hb9
            injection hb9 with hb9
            injection hb9 with hb9
            subst hb9
            have R := R1.ext e3
            replace x0 := e3.cell x0
            replace x1 := e3.cell x1
            replace i5 := i5.ext e3
            have HX := Lib.hid (HE1.out.trans e3)
            obtain ⟨Q, hQ⟩ : ∃ Q, Q = rQ l := ⟨_, rfl⟩
            obtain ⟨N, hN⟩ : ∃ N, N = pZ (qNT l) := ⟨_, rfl⟩
            rw [← hQ] at i9
            rw [← hN] at i5
            have HQQ := Lib.hid hQ
            have HNN := Lib.hid hN
            clear hQ hN e2 e3 R1 y0 y1 i8 g0 g1 hb8 hb5 hmI
            cases k1 : parseOK (qNT l) with
            | false =>
              have HB : Hid (qOK l = false) := ref_bad (fun h => by rw [h.1] at k1; cases k1)
              have hpe : pE (qNT l) = 2 := by unfold pE; rw [k1]; rfl
              clear k1
              rw [hpe]
              clear hpe
              obtain ⟨r0, r1, r2, r3, f0, f1, f2, f3⟩ := R
              go_wp2
              exact bodyPost_ret (v := .tuple #[.agg #[.bool false, .slice none 0 0, .bool false, .slice none 0 0], .int .i64 2]) (by simp [results, Tryz.results55, go_sem, r0, r1, r2, r3]) rfl ⟨_, by unfold qEV; rw [HB.out]; rfl, ⟨_, _, _, _, rfl, by unfold qNV; rw [HB.out]; exact isInt_zero _, by unfold qDV; rw [HB.out]; exact isInt_zero _⟩, put4_ext HX.out (Nat.le_refl _) _ _ _ _⟩
            | true =>
              have hpe : pE (qNT l) = 0 := by unfold pE; rw [k1]; rfl
              rw [hpe]
              clear hpe
              by_cases k2 : qSl l = true → parseOK (qDT l) = true
              · have hqe : EQ = 0 := by
                  rw [HEQ.out]
                  cases hs2 : qSl l with
                  | false => rfl
                  | true => rw [if_pos rfl]; unfold pE; rw [k2 hs2]; rfl
                rw [hqe]
                have HK := Lib.hid (And.intro k1 k2)
                clear hqe k1 k2
                go_wp2_with fail
                refine (rsign_calls _ _ _ i9).mono ?_
                rintro e w4 ⟨rfl, e4⟩
                replace R := R.ext e4
                replace x0 := e4.cell x0
                replace x1 := e4.cell x1
                replace y0' := e4.cell y0'
                replace y1' := e4.cell y1'
                replace i5 := i5.ext e4
                replace i9 := i9.ext e4
                have HX4 := Lib.hid (HX.out.trans e4)
                clear e4 HX
                by_cases hq : 0 < Q
                · have hs1 : cmpZ Q 0 = 1 := (cmp_pos Q).2 hq
                  rw [hs1]
                  have HQP := Lib.hid hq
                  clear hs1 hq
                  have hNl : Lim 7282 N := by rw [HNN.out]; exact (pZ_lim (m := 65536) (by have := cut_len1 l [47]; have := HS.out; unfold qNT; omega)).mono (by omega)
                  have hQl : Lim 7282 Q := by
                    rw [HQQ.out]
                    unfold rQ
                    split
                    · exact (pZ_lim (m := 65536) (by have := cut_len2 l [47]; have := HS.out; unfold qDT; omega)).mono (by omega)
                    · exact (lim1 (by decide)).mono (by omega)
                  have hQ0 : Q ≠ 0 := by have := HQP.out; omega
                  obtain ⟨lN, lD⟩ := divInt_lim hNl hQl hQ0
                  have href := ref_iff HK.out.1 HK.out.2 (by rw [← HQQ.out]; exact HQP.out)
                  rw [← HNN.out, ← HQQ.out] at href
                  obtain ⟨q, hq⟩ : ∃ q, q = Rat.divInt N Q := ⟨_, rfl⟩
                  rw [← hq] at lN lD href
                  have HQ5 := Lib.hid hq
                  have HREF := Lib.hid href
                  have HLL2 := Lib.hid (And.intro lN lD)
                  have HL4 := Lib.hid (And.intro hNl (And.intro hQl hQ0))
                  clear hq href lN lD hNl hQl hQ0
                  go_upto_region 13 with fail
                  go_cut [10] (fun p wx => Ext w4 wx ∧ ∃ b sA aA nA pA sC aC nC pC, p = .pointer (some ⟨b, 0, none⟩) ∧ wx.cell? ⟨b, 0, none⟩ = some (.bool sA) ∧ wx.cell? ⟨b, 1, none⟩ = some (.slice aA nA pA) ∧ wx.cell? ⟨b, 2, none⟩ = some (.bool sC) ∧ wx.cell? ⟨b, 3, none⟩ = some (.slice aC nC pC) ∧ IsInt wx (.agg #[.bool sA, .slice aA nA pA]) q.num ∧ IsInt wx (.agg #[.bool sC, .slice aC nC pC]) (q.den : Int))
                  case first =>
                    go_wp2_with fail
                    refine (of_calls _ _ _ N Q HL4.out.2.2 i5 i9 (HL4.out.1.mono (by omega)) (HL4.out.2.1.mono (by omega))).mono ?_
                    rintro e w5 ⟨v5, rfl, hq5, e5⟩
                    rw [← HQ5.out] at hq5
                    obtain ⟨A, B, C, D, rfl, iA, iC⟩ := hq5
                    have iA' := iA
                    have iC' := iC
                    obtain ⟨aA, pA, hvA, _⟩ := iA
                    obtain ⟨aC, pC, hvC, _⟩ := iC
                    simp only [Value.agg.injEq, Array.mk.injEq, List.cons.injEq, and_true] at hvA hvC
                    obtain ⟨rfl, rfl⟩ := hvA
                    obtain ⟨rfl, rfl⟩ := hvC
                    go_wp2_with fail
                    go_meet
                    have e6 := (Ext.refl w5).alloc (.cells #[.bool (decide (q.num < 0)), .slice aA (limbs q.num.natAbs).length pA, .bool (decide ((q.den : Int) < 0)), .slice aC (limbs (q.den : Int).natAbs).length pC] 29)
                    exact ⟨e5.trans e6, _, _, _, _, _, _, _, _, _, rfl, by simp, by simp, by simp, by simp, iA'.ext e6, iC'.ext e6⟩
                  case rest =>
                    obtain ⟨w5, rfl⟩ : ∃ w5, w5 = wc := ⟨_, rfl⟩
                    obtain ⟨e5, b10, sA, aA, nA, pA, sC, aC, nC, pC, rfl, z0, z1, z2, z3, iA, iC⟩ := hcut
                    replace R := R.ext e5
                    have HX5 := Lib.hid (HX4.out.trans e5)
                    clear e5 HX4 x0 x1 y0' y1' i5 i9
                    go_wp2_with fail
                    refine (rformatQ_calls _ _ q.num (q.den : Int) ⟨_, _, _, _, rfl, iA, iC⟩ (HLL2.out.1.mono (by omega)) (HLL2.out.2.mono (by omega))).mono ?_
                    rintro e w6 ⟨rfl, e6⟩
                    replace R := R.ext e6
                    replace z0 := e6.cell z0
                    replace z1 := e6.cell z1
                    replace z2 := e6.cell z2
                    replace z3 := e6.cell z3
                    replace iA := iA.ext e6
                    replace iC := iC.ext e6
                    have HX6 := Lib.hid (HX5.out.trans e6)
                    clear e6 HX5
                    by_cases hfm : fmtQ q.num (q.den : Int) = l
                    · have hXs : (⟨(fmtQ q.num (q.den : Int)).toArray⟩ : ByteArray) = s := by
                        rw [hfm, HLL.out]
                      have hok : Hid (qOK l = true) := HREF.out.1.1 hfm
                      rw [hXs]
                      clear hXs hfm
                      have HR6 := Lib.hid R
                      obtain ⟨r0, r1, r2, r3, f0, f1, f2, f3⟩ := R
                      go_wp2
                      exact bodyPost_ret (v := .tuple #[.agg #[.bool sA, .slice aA nA pA, .bool sC, .slice aC nC pC], .int .i64 0]) (by simp [results, Tryz.results55, go_sem, r0, r1, r2, r3]) rfl ⟨_, by unfold qEV; rw [hok.out]; rfl, ⟨_, _, _, _, rfl, by rw [← (HREF.out.2 hok.out).1]; exact HR6.out.put iA _ _ _ _, by rw [← (HREF.out.2 hok.out).2]; exact HR6.out.put iC _ _ _ _⟩, put4_ext HX6.out (Nat.le_refl _) _ _ _ _⟩
                    · have HB : Hid (qOK l = false) := by
                        unfold Hid
                        rw [Bool.eq_false_iff]
                        exact fun h => hfm (HREF.out.1.2 h)
                      have hXs : (⟨(fmtQ q.num (q.den : Int)).toArray⟩ : ByteArray) ≠ s := by
                        intro e
                        apply hfm
                        rw [HLL.out, ← e]
                      generalize (⟨(fmtQ q.num (q.den : Int)).toArray⟩ : ByteArray) = X at hXs ⊢
                      have hX1 : ¬ X.toList = s.toList := by
                        intro e
                        rw [ByteArray.toList_eq, ByteArray.toList_eq] at e
                        exact hXs ((ba_eq e).trans (bytes_of s))
                      have hX2 : (X.toList == s.toList) = false := by rw [beq_eq_false_iff_ne]; exact hX1
                      have hX3 : (X.toList != s.toList) = true := by rw [bne_iff_ne]; exact hX1
                      clear hfm
                      obtain ⟨r0, r1, r2, r3, f0, f1, f2, f3⟩ := R
                      go_wp2
                      exact bodyPost_ret (v := .tuple #[.agg #[.bool false, .slice none 0 0, .bool false, .slice none 0 0], .int .i64 2]) (by simp [results, Tryz.results55, go_sem, r0, r1, r2, r3]) rfl ⟨_, by unfold qEV; rw [HB.out]; rfl, ⟨_, _, _, _, rfl, by unfold qNV; rw [HB.out]; exact isInt_zero _, by unfold qDV; rw [HB.out]; exact isInt_zero _⟩, put4_ext HX6.out (Nat.le_refl _) _ _ _ _⟩
                · have HB : Hid (qOK l = false) := ref_bad (fun h => hq (by rw [HQQ.out]; exact h.2.2))
                  have hs1 : (cmpZ Q 0 != 1) = true := by
                    rw [bne_iff_ne]
                    exact fun e => hq ((cmp_pos Q).1 e)
                  have hs2 : (cmpZ Q 0 == 1) = false := by
                    rw [beq_eq_false_iff_ne]
                    exact fun e => hq ((cmp_pos Q).1 e)
                  clear hq
                  obtain ⟨r0, r1, r2, r3, f0, f1, f2, f3⟩ := R
                  go_wp2
                  exact bodyPost_ret (v := .tuple #[.agg #[.bool false, .slice none 0 0, .bool false, .slice none 0 0], .int .i64 2]) (by simp [results, Tryz.results55, go_sem, r0, r1, r2, r3]) rfl ⟨_, by unfold qEV; rw [HB.out]; rfl, ⟨_, _, _, _, rfl, by unfold qNV; rw [HB.out]; exact isInt_zero _, by unfold qDV; rw [HB.out]; exact isInt_zero _⟩, put4_ext HX4.out (Nat.le_refl _) _ _ _ _⟩
              · have hqe : EQ = 2 := by
                  rw [HEQ.out]
                  cases hs2 : qSl l with
                  | false => exact absurd (fun h => by rw [hs2] at h; cases h) k2
                  | true =>
                    rw [if_pos rfl]
                    unfold pE
                    cases hd : parseOK (qDT l) with
                    | false => rfl
                    | true => exact absurd (fun _ => hd) k2
                have HB : Hid (qOK l = false) := ref_bad (fun h => k2 h.2.1)
                rw [hqe]
                clear hqe k1 k2
                obtain ⟨r0, r1, r2, r3, f0, f1, f2, f3⟩ := R
                go_wp2
                exact bodyPost_ret (v := .tuple #[.agg #[.bool false, .slice none 0 0, .bool false, .slice none 0 0], .int .i64 2]) (by simp [results, Tryz.results55, go_sem, r0, r1, r2, r3]) rfl ⟨_, by unfold qEV; rw [HB.out]; rfl, ⟨_, _, _, _, rfl, by unfold qNV; rw [HB.out]; exact isInt_zero _, by unfold qDV; rw [HB.out]; exact isInt_zero _⟩, put4_ext HX.out (Nat.le_refl _) _ _ _ _⟩
    · have hlt : k < s.size := by omega
      have hkl : k < l.length := by have := HLN.out; omega
      have hck : l[k] = s[k] := by
        have := HLL.out
        subst this
        rfl
      obtain ⟨t1, t2⟩ := tw_step l k hkl
      have hkI : ((k + 1 : Nat) : Int) - 1 = (k : Int) := by omega
      rw [hkI]
      by_cases hc : s[k] = 47
      · have f0 : ((s[k].toNat : Int) == 47) = true := by rw [hc]; rfl
        have HT := Lib.hid (t1 (hck.trans hc))
        clear t1 t2 hck hc
        go_wp2
        go_round
        case rel =>
          refine ⟨k, by omega, by first | rfl | go_num, ?_⟩
          rw [HT.out]; rfl
        case measure => first | (simp [intOf]; done) | (simp [intOf]; omega)
      · have f0 : ((s[k].toNat : Int) == 47) = false := by
          rw [beq_eq_false_iff_ne]
          intro e
          exact hc (UInt8.toNat_inj.1 (by have : (47 : UInt8).toNat = 47 := rfl; omega))
        have HT := Lib.hid (t2 (fun e => hc (hck.symm.trans e)))
        clear t1 t2 hck hc
        go_wp2
        go_round
        case rel =>
          refine ⟨k, by omega, by first | rfl | go_num, ?_⟩
          rw [HT.out]
          congr 1
          omega
        case measure => first | (simp [intOf]; done) | (simp [intOf]; omega)
end Go.Proofs.YtmofkmdacfdejaaGreatDoor
end

/- ---- Txd ---- -/
section
/-
  RationalText.
-/
set_option maxRecDepth 100000
namespace Go.Proofs.YtmofkmdacfdejaaGreatDoor
open Go.RowKit

theorem cfgLW_ok {E : Env} {tab : List (Nat × Con)} {sm : List Chunk → Nat → Option Bool} {W : World → Prop} (h : TabW Tryz.prog W E tab) (haw : Awake W) (hs : SmOK E sm) : CfgOK Tryz.prog E (cfgL W tab sm) := by
  have k : CfgOK Tryz.prog E (cfgOf []) := cfg_ok .nil
  refine ⟨k.zero, k.ag, k.fld, k.flds, k.bool, k.row, k.arr, ?_, ?_, ?_, k.slc, k.strT, k.apd⟩
  · intro f args M G r hr hG β w vs hwk hv hlen hm
    simp only [cfgL, callsL] at hr
    split at hr
    · rename_i hf
      subst hf
      split at hr
      · rename_i x off cs
        obtain ⟨c, hc, rfl⟩ := Option.map_eq_some_iff.1 hr
        obtain ⟨v, rfl, h1⟩ := args1 hv hlen
        have h1' : v = pv (β x) off := h1
        subst h1'
        refine (hs cs off c hc w (β x) (hm 0 x off cs rfl rfl)).mono ?_
        rintro e w' ⟨rfl, ex⟩
        exact ⟨_, rfl, one_bool.2 rfl, ex⟩
      · cases hr
    · split at hr
      · rename_i hf
        subst hf
        split at hr
        · injection hr with hr
          subst hr
          obtain rfl : vs = [] := by simpa using hlen
          refine (haw w hwk).mono ?_
          rintro e w' ⟨rfl, ex⟩
          exact ⟨_, rfl, one_bool.2 rfl, ex⟩
        · cases hr
      · obtain ⟨kk, hk, hkr⟩ := tabE_mem hr
        exact (h.all _ hk).calls args G r hkr hG β w vs hwk hv hlen
  · intro f args M G r hr x off
    simp only [cfgL, callsL] at hr
    split at hr
    · split at hr
      · obtain ⟨c, hc, rfl⟩ := Option.map_eq_some_iff.1 hr
        intro e; cases e
      · cases hr
    · split at hr
      · split at hr
        · injection hr with hr; subst hr; intro e; cases e
        · cases hr
      · obtain ⟨kk, hk, hkr⟩ := tabE_mem hr
        exact (h.all _ hk).nptr args G r hkr x off
  · intro f args M G r hr
    simp only [cfgL, callsL] at hr
    split at hr
    · rename_i hf
      subst hf
      exact ⟨_, Tryz.func24, by decide +kernel, by kernel_rfl⟩
    · split at hr
      · rename_i hf
        subst hf
        exact ⟨_, Tryz.func12, by decide +kernel, by kernel_rfl⟩
      · obtain ⟨kk, hk, hkr⟩ := tabE_mem hr
        exact (h.all _ hk).body
/-- A number, its text, another text and what is read from it. -/
def txE (a : Rat) (l : List UInt8) : Env := sE [l, fmtQ a.num (a.den : Int)] [a.num, (a.den : Int), qNV l, qDV l, qEV l] []
def kFm : Con
  | [.val true [.int x l, .int y m]], _ => if (isV 0 x && isV 1 y) && (decide (l ≤ 6) && decide (m ≤ 6)) then some (.val false [.str (.var 1) 200]) else none
  | _, _ => none
theorem fmt_len {a : Rat} (h : LimQ 6 a) : (fmtQ a.num (a.den : Int)).length ≤ 200 := by
  have h1 := itoa_len h.1
  have h2 := itoa_len h.2
  unfold fmtQ
  split
  · omega
  · simp only [List.length_append, List.length_singleton]; omega
theorem kFm_ok {a : Rat} {l : List UInt8} (la : LimQ 6 a) {W : World → Prop} {f : Nat}
    (hc : ∀ (w : World) (v : Value) (n d : Int), W w → IsPair w v n d → Lim 100000 n → Lim 100000 d → Calls Tryz.prog f #[v] w fun e w' => e = .returned (.string ⟨(fmtQ n d).toArray⟩) ∧ Ext w w')
    (hf : ∃ fn, Tryz.prog.funcs[f]? = some fn ∧ fn.name ≠ "runtime.NumGoroutine" ∧ fn.body.isNone = false) : ConW Tryz.prog W (txE a l) f kFm := by
  refine ⟨?_, ?_, hf⟩
  · intro args As r h hG β w vs hW hv hlen
    unfold kFm at h
    split at h
    · split at h
      · rename_i x lx y m hm
        simp only [Bool.and_eq_true, decide_eq_true_iff] at hm
        obtain ⟨⟨hx, hy⟩, hl, hm⟩ := hm
        obtain rfl := isV_spec hx
        obtain rfl := isV_spec hy
        injection h with h
        subst h
        obtain ⟨v, rfl, h1⟩ := args1 hv hlen
        obtain ⟨p1, a1, a2⟩ := one_pair.1 h1
        have e1 : (IT.var 0).den (txE a l) = a.num := rfl
        have e2 : (IT.var 1).den (txE a l) = (a.den : Int) := rfl
        rw [e1, e2] at p1
        rw [e1] at a1
        rw [e2] at a2
        refine (hc w v _ _ hW p1 (a1.mono (by omega)) (a2.mono (by omega))).mono ?_
        rintro e w' ⟨rfl, ex⟩
        exact ⟨_, rfl, one_str.2 ⟨rfl, fmt_len la⟩, ex⟩
      · cases h
    · cases h
  · intro args As r h x off
    unfold kFm at h
    split at h
    · split at h
      · injection h with h; subst h; intro e; cases e
      · cases h
    · cases h
def kPs : Con
  | [.val false [.str (.var i) _]], G => if i == 1 then some (.tup [(true, [.int (.var 0) 6, .int (.var 1) 6]), (false, [.n .i64 (.lit 0)])])
    else if i == 0 && G.find (.lt (.lit 200) (.slen 0)) == some false then some (.tup [(true, [.int (.var 2) 7283, .int (.var 3) 7283]), (false, [.n .i64 (.var 4)])]) else none
  | _, _ => none
theorem kPs_ok {a : Rat} {l : List UInt8} (la : LimQ 6 a) {W : World → Prop} {f : Nat}
    (hc : ∀ (w : World) (l : List UInt8), W w → l.length ≤ 65536 → Calls Tryz.prog f #[.string ⟨l.toArray⟩] w (RetPQ l w))
    (hf : ∃ fn, Tryz.prog.funcs[f]? = some fn ∧ fn.name ≠ "runtime.NumGoroutine" ∧ fn.body.isNone = false) : ConW Tryz.prog W (txE a l) f kPs := by
  refine ⟨?_, ?_, hf⟩
  · intro args As r h hG β w vs hW hv hlen
    unfold kPs at h
    split at h
    · rename_i i m
      obtain ⟨v, rfl, h1⟩ := args1 hv hlen
      obtain ⟨rfl, h2⟩ := one_str.1 h1
      split at h
      · rename_i hi
        have : i = 1 := by simpa using hi
        subst this
        injection h with h
        subst h
        have hl := fmt_len la
        have hco : coB a.num (a.den : Int) = true := by
          unfold coB
          have r := a.reduced
          have r' : Nat.gcd a.num.natAbs (a.den : Int).natAbs = 1 := r
          rw [r', decide_eq_true (by have := a.den_pos; omega)]
          rfl
        have n1 := itoa_len la.1
        have n2 := itoa_len la.2
        obtain ⟨k1, k2, k3⟩ := parse_fmt a.num (a.den : Int) (by omega) (by omega) hco
        refine (hc w (fmtQ a.num (a.den : Int)) hW (by omega)).mono ?_
        rintro e w' ⟨u, rfl, hp, ex⟩
        rw [k2, k3] at hp
        have ke : qEV (fmtQ a.num (a.den : Int)) = 0 := by unfold qEV; rw [k1]; rfl
        rw [ke]
        exact ⟨_, rfl, ⟨[u, .int .i64 0], rfl, u, _, rfl, one_pair.2 ⟨hp, la.1, la.2⟩, _, _, rfl, one_num.2 rfl, rfl⟩, ex⟩
      · split at h
        · rename_i hi
          simp only [Bool.and_eq_true, beq_iff_eq] at hi
          obtain ⟨rfl, hg⟩ := hi
          injection h with h
          subst h
          have c1 := of_decide_eq_false (Asm.find_spec hG hg)
          have c2 : ¬ (200 : Int) < ((l.length : Nat) : Int) := c1
          have hl : l.length ≤ 65536 := by omega
          refine (hc w l hW hl).mono ?_
          rintro e w' ⟨u, rfl, hp, ex⟩
          exact ⟨_, rfl, ⟨[u, .int .i64 _], rfl, u, _, rfl, one_pair.2 ⟨hp, (qNV_lim hl).1, (qNV_lim hl).2⟩, _, _, rfl, one_num.2 rfl, rfl⟩, ex⟩
        · cases h
    · cases h
  · intro args As r h x off
    unfold kPs at h
    split at h
    · split at h
      · injection h with h; subst h; intro e; cases e
      · split at h
        · injection h with h; subst h; intro e; cases e
        · cases h
    · cases h
theorem rparse_list (w : World) (l : List UInt8) (hl : l.length ≤ 65536) : Calls Tryz.prog 55 #[.string ⟨l.toArray⟩] w (RetPQ l w) := rparseQ_calls w ⟨l.toArray⟩ hl
def tabTx : List (Nat × Con) := (53, kFm) :: (54, kFm) :: (52, kPs) :: (55, kPs) :: [(16, kSame), (17, kZero)]
theorem tabTx_ok {a : Rat} {l : List UInt8} (la : LimQ 6 a) : TabW Tryz.prog WQ (txE a l) tabTx :=
  .cons (kFm_ok la (fun w v n d hW h l1 l2 => formatQ_calls w hW v n d h l1 l2) ⟨_, Tryz.func53, by decide +kernel, by kernel_rfl⟩)
    (.cons (kFm_ok la (fun w v n d _ h l1 l2 => rformatQ_calls w v n d h l1 l2) ⟨_, Tryz.func54, by decide +kernel, by kernel_rfl⟩)
      (.cons (kPs_ok la (fun w l hW hl => parse_rat_calls w hW.1 l hl) ⟨_, Tryz.func52, by decide +kernel, by kernel_rfl⟩)
        (.cons (kPs_ok la (fun w l _ hl => rparse_list w l hl) ⟨_, Tryz.func55, by decide +kernel, by kernel_rfl⟩)
          (TabOK.toW (.cons kSame_ok (.cons kZero_ok .nil))))))
def txT : Tree := .ite (.lt (.lit 200) (.slen 0)) (leafB (.lit true)) (.ite (.eq (.var 4) (.lit 0)) (leafB (.lit true)) (leafB (.and (.eq (.var 2) (.lit 0)) (.eq (.var 3) (.lit 0)))))
theorem text_valid (w : World) (hW : WQ w) (v1 : Value) (a : Rat) (s : ByteArray) (hs : s.size ≤ 9223372036854775807) (h1 : IsRat w v1 a) (l1 : LimQ 6 a) :
    Calls Tryz.prog 11 #[v1, .string s] w (IsTrue w) := by
  have hlen : s.data.toList.length ≤ 9223372036854775807 := by rw [bytes_len]; exact hs
  have hsm : SmOK (txE a s.data.toList) (smT 1) := by
    intro cs off c h w bl hv
    have h' := h
    unfold smT at h'
    split at h'
    · rename_i hbb
      simp only [Bool.and_eq_true, beq_iff_eq] at hbb
      obtain ⟨k1, k2, rfl⟩ := hbb
      have hcs := isVars_spec k1
      rw [k2] at hcs
      have hcs' : cs = [.int (.var 0) 6, .int (.var 1) 6] := hcs
      subst hcs'
      exact smT_ok1 (smQ_of l1 h1) _ _ c h w bl hv
    · cases h'
  refine (fun_sound (C := cfgL WQ tabTx (smT 1)) (E := txE a s.data.toList) (args := [argS 0, .val false [.str (.var 0) 9223372036854775807]]) (T := txT)
    mixed (cfgLW_ok (tabTx_ok l1) awake_ok hsm) no_asm Tryz.func11 (by decide +kernel) (by kernel_rfl) (by decide +kernel) rfl w [v1, .string s] rfl ?_ (fun w' e => hW.ext e)).mono ?_
  · intro i x hx
    match i, hx with
    | 0, hx => injection hx with hx; subst hx; exact ⟨fun _ => 0, v1, rfl, argS_holds h1 l1 rfl rfl⟩
    | 1, hx => injection hx with hx; subst hx; exact ⟨fun _ => 0, _, rfl, one_str.2 ⟨rfl, hlen⟩⟩
  · rintro e w' ⟨β, u, rfl, hh, ex⟩
    unfold txT leafB at hh
    simp only [Tree.pick] at hh
    split at hh
    · have := one_bool.1 hh
      subst this
      exact ⟨rfl, ex⟩
    · split at hh
      · have := one_bool.1 hh
        subst this
        exact ⟨rfl, ex⟩
      · rename_i hz
        have hq : qOK s.data.toList = false := by
          cases hq : qOK s.data.toList with
          | false => rfl
          | true =>
            exfalso
            apply hz
            show (qEV s.data.toList == 0) = true
            unfold qEV
            rw [hq]; rfl
        have := one_bool.1 hh
        subst this
        have e1 : (BT.and (.eq (.var 2) (.lit 0)) (.eq (.var 3) (.lit 0))).den (txE a s.data.toList) = true := by
          show (qNV s.data.toList == 0 && qDV s.data.toList == 0) = true
          unfold qNV qDV
          rw [hq]; rfl
        rw [e1]
        exact ⟨rfl, ex⟩
def rsE (l : List (Bool × List Nat)) (t : List UInt8) : Env := ⟨(bE smQ l).i, (bE smQ l).b, (bE smQ l).r, fun _ => t⟩
theorem lawTextQ_calls (w : World) (hW : WQ w) (v1 : Value) (s1 s2 : Bool) (xs1 xs2 : List Nat) (h1 : RawQ w v1 s1 xs1 s2 xs2) (s : ByteArray) (hs : s.size ≤ 9223372036854775807) :
    Calls Tryz.prog 11 #[v1, .string s] w (IsTrue w) := by
  by_cases hc : smQ s1 xs1 s2 xs2 = true
  · obtain ⟨a, i1, l1⟩ := smQ_rat h1 hc
    exact text_valid w hW v1 a s hs i1 l1
  · have hlen : s.data.toList.length ≤ 9223372036854775807 := by rw [bytes_len]; exact hs
    have hsm : SmOK (rsE [(s1, xs1), (s2, xs2)] s.data.toList) (smF 1) := by
      intro cs off c h w bl hv
      have h' := h
      unfold smF at h'
      split at h'
      · rename_i hbb
        simp only [Bool.and_eq_true, beq_iff_eq] at hbb
        obtain ⟨k1, k2, rfl⟩ := hbb
        have hcs := isRaw_spec k1
        rw [k2] at hcs
        have hcs' : cs = rowC 1 := hcs
        subst hcs'
        exact smF_ok1 (l := [(s1, xs1), (s2, xs2)]) (fun hall => hc (hall 0 (by omega))) _ _ c h w bl hv
      · cases h'
    refine (fun_sound (C := cfgL WQ [] (smF 1)) (E := rsE [(s1, xs1), (s2, xs2)] s.data.toList) (args := [argRaw 0 1, .val false [.str (.var 0) 9223372036854775807]]) (T := leafB (.lit true))
      mixed (cfgLW_ok .nil awake_ok hsm) no_asm Tryz.func11 (by decide +kernel) (by kernel_rfl) (by decide +kernel) rfl w [v1, .string s] rfl ?_ (fun w' e => hW.ext e)).mono ?_
    · intro i x hx
      match i, hx with
      | 0, hx => injection hx with hx; subst hx; exact ⟨fun _ => 0, v1, rfl, argRaw_holds h1 rfl rfl⟩
      | 1, hx => injection hx with hx; subst hx; exact ⟨fun _ => 0, _, rfl, one_str.2 ⟨rfl, hlen⟩⟩
    · rintro e w' ⟨β, u, rfl, hh, ex⟩
      have := one_bool.1 hh
      subst this
      exact ⟨rfl, ex⟩
end Go.Proofs.YtmofkmdacfdejaaGreatDoor
end

/- ---- TextQCard ---- -/
section
/-
  The tied card RationalTextCardSaid: for every input the call returns true, and each argument reads behind the call as it read before.
-/
namespace Go.Proofs.YtmofkmdacfdejaaGreatDoor.lawTextQ
open Go.ChangeShapes Go.WideShapes Go.ChangeAt Go.RowKit
open Go.ChangeMaps (open_string shut_string)

set_option maxRecDepth 100000 in
theorem lifted (os : Os) (started : os.Started) (H : Type) (enc : TypeId × Value → H) :
    ReturnsInHanded {} Tryz.checked os 11 .any (fun w args => (Rows.rationalTextSpec.pre enc Tryz.prog Tryz.f11 [] false w args ∧ laidMetH Tryz.prog laidL w) ∧ sizedMet enc Tryz.prog Tryz.f11 (OpenSpec.ofChange Rows.rationalTextSpec) false w args)
      (Rows.rationalTextSpec.post enc Tryz.prog Tryz.f11 false true false false) := by
  refine handed_laid (C := Tryz.checked) own started (by kernel_rfl) Tryz.func11
    (ChangeSpec.witness_shaped (enc := enc) (C := Tryz.checked) (os := os) (X := fun w _ => laidMetH Tryz.prog laidL w) false (World.doorLaid Tryz.prog 24 os) #[.agg #[.bool false, .slice none 0 0, .bool false, .slice none 0 0], .string ⟨#[]⟩] 8 rfl (World.shaped_of_RefB (by kernel_rfl) (by kernel_rfl)) (by kernel_rfl) (by kernel_rfl) (by kernel_rfl) (door_met os _)) ?_
  intro W base args ds gs before hval0 hW _ hL hsh
  have hWQ : WQ W := WQ.laid hL hsh
  have hval : ∀ (j : Nat) t v, Tryz.f11.params[j]? = some t → args[j]? = some v → Value.okWide Tryz.prog W .any base t v := hval0
  have hW' := hW
  obtain ⟨p, q, hA0, hV, rfl, hfz, hnd⟩ := hW
  have hA : DataW.TrodAll enc Tryz.prog W 0 (fun _ => true) true Tryz.f11.params.toList args.toList ds p := hA0
  rw [Tryz.params11] at hA hval
  obtain ⟨v0, vs0, d0, ds0, p0, q0, hargs, rfl, rfl, h0, r0⟩ := trodAll_cons hA
  obtain ⟨v1, vs1, d1, ds1, p1, q1, rfl, rfl, rfl, h1, r1⟩ := trodAll_cons r0
  obtain ⟨rfl, rfl, rfl⟩ := trodAll_nil r1
  obtain rfl : args = #[v0, v1] := by cases args; simp_all
  obtain ⟨rfl, rfl⟩ := trodVars_none hV
  have k0 := h0
  have lt0 : ∀ x ∈ p0, x.block < W.heap.size := by obtain ⟨m, hm⟩ := k0; exact DataW.trod_lt m _ _ _ hm
  obtain ⟨s0, x0, t0, y0, w0⟩ := open_q (hval 0 29 v0 rfl rfl) h0
  have k1 := h1
  have lt1 : ∀ x ∈ p1, x.block < W.heap.size := by obtain ⟨m, hm⟩ := k1; exact DataW.trod_lt m _ _ _ hm
  obtain ⟨s1, rfl, rfl, rfl, w1⟩ := open_string Tryz.underlying9 (hval 1 9 v1 rfl rfl) h1
  clear hA0 hval0
  refine (lawTextQ_calls W hWQ v0 s0 t0 x0 y0 w0 s1 (by have := w1; unfold maxLen at this; omega)).mono fun e W' ⟨he, bel⟩ => ?_
  subst he
  exact ⟨_, rfl, _, _, _, [], _, [], hW', trodAll_mk1 (shut_bool Tryz.underlying4 _), (trodAll_cons_mk (Below.trod laidOut (by kernel_rfl) (of_decide_eq_true (by kernel_rfl)) k0 bel lt0) (trodAll_cons_mk (Below.trod laidOut (by kernel_rfl) (of_decide_eq_true (by kernel_rfl)) k1 bel lt1) trodAll_mk0)), rfl, bel.frame _, fun h => by cases h⟩

theorem over : Rows.RationalTextSaid :=
  OpenClaim.holds_of_wide 11 Tryz.f11 rfl rfl rfl rfl rfl rfl rfl ⟨rfl, rfl, rfl, rfl, rfl⟩ rfl rfl rfl rfl rfl (by kernel_rfl) Tryz.func11 (by kernel_rfl)
    (of_decide_eq_true (by kernel_rfl)) (by unfold Func.isWrapper; first | (rw [if_pos (by decide +kernel)]; kernel_rfl) | (rw [if_neg (by decide +kernel)]; exact ⟨rfl, rfl⟩))
    (fun os started H enc _ => lifted os started H enc)

theorem proved : Rows.RationalTextCardSaid :=
  Claim7.holds_tied_plain_at .later [] [.data, .data, .data] true (true, "aeb570a7155a974368a6e853c8f51ef925c14d306eb31d39a16145bee058b322") false
    over (fun _ h => by cases h) (by kernel_rfl) (fun _ h => by cases h) rationalText_row_tie rfl ⟨rfl, rfl⟩ (by kernel_rfl) rfl
    (fun f fn hf hfn => by
      obtain rfl : f = 11 := Option.some.inj ((show Tryz.prog.funcNamed "swarf/swarflaw02.RationalText" = some 11 by kernel_rfl).symm.trans hf) |>.symm
      obtain rfl : fn = Tryz.f11 := (Option.some.inj (Tryz.func11.symm.trans hfn)).symm
      exact ⟨by kernel_rfl, fun j t ht => by
        rw [Tryz.params11] at ht
        have hm : t ∈ [29, 9] := by simpa using Array.mem_of_getElem? ht
        have hall : ([29, 9].all fun u => !Tryz.prog.wantsStandIn u) = true := by kernel_rfl
        exact (show Tryz.prog.wantsStandIn t = false by simpa using List.all_eq_true.1 hall t hm)⟩)
    (by kernel_rfl)
end Go.Proofs.YtmofkmdacfdejaaGreatDoor.lawTextQ
end
