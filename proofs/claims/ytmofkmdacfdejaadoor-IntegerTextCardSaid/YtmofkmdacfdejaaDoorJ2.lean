/-
  Texts of this seat, joined.
-/
import Derived.Test.YtmofkmdacfdejaaDoorJ1
import Derived.Shelf.Small.Wraps
import Derived.Deep.DeepCutAuto
import Derived.StillTailTactics
import Derived.IntWalk
/- ---- Rga ---- -/
section
/-
  Format of the reference: the decimal text of an integer.
-/
set_option maxRecDepth 100000
namespace Go.Proofs.YtmofkmdacfdejaaDoor
open Go.RowKit Go.Shelf

theorem pad_front : ∀ (k r : Nat), pad (k + 1) r = UInt8.ofNat (48 + r / 10 ^ k % 10) :: pad k r
  | 0, r => by simp [pad]
  | k + 1, r => by
    rw [pad, pad_front k (r / 10), Nat.div_div_eq_div_mul, show 10 * 10 ^ k = 10 ^ (k + 1) by rw [Nat.pow_succ, Nat.mul_comm]]
    rfl
theorem groups_snoc (x : Nat) : ∀ (l : List Nat), groups (l ++ [x]) = pad 9 x ++ groups l
  | [] => by simp [groups]
  | y :: l => by rw [List.cons_append, groups, groups_snoc x l, groups, List.append_assoc]
theorem groups_length : ∀ (l : List Nat), (groups l).length = 9 * l.length
  | [] => rfl
  | x :: l => by rw [groups, List.length_append, pad_length, groups_length l, List.length_cons]; omega
theorem pad_strip : ∀ (k r : Nat), 0 < r → r < 10 ^ k → (pad k r).dropWhile (· == 48) = Lib.decDigits r
  | 0, r, h, h2 => by simp at h2; omega
  | k + 1, r, h, h2 => by
    rw [pad]
    by_cases h10 : r < 10
    · have : r / 10 = 0 := by omega
      rw [this, Lib.decDigits, dif_pos h10]
      have e : ∀ k, (pad k 0 ++ [UInt8.ofNat (48 + r % 10)]).dropWhile (· == 48) = [UInt8.ofNat (48 + r % 10)] := by
        intro k
        induction k with
        | zero =>
          have hne : (UInt8.ofNat (48 + r % 10) == 48) = false := by
            rw [beq_eq_false_iff_ne]
            intro e
            have := congrArg UInt8.toNat e
            rw [UInt8.toNat_ofNat'] at this
            have e48 : (48 : UInt8).toNat = 48 := rfl
            rw [e48] at this
            omega
          show ([] ++ [UInt8.ofNat (48 + r % 10)]).dropWhile (· == 48) = _
          rw [List.nil_append, List.dropWhile_cons, hne]
          rfl
        | succ k ih =>
          rw [pad_front]
          have : 0 / 10 ^ k % 10 = 0 := by simp
          rw [this]
          show ((48 : UInt8) :: (pad k 0 ++ _)).dropWhile (· == 48) = _
          rw [List.dropWhile_cons]
          exact ih
      rw [e, show r % 10 = r by omega]
    · have ih := pad_strip k (r / 10) (by omega) (by rw [Nat.pow_succ] at h2; omega)
      rw [Lib.decDigits, dif_neg h10, ← ih, List.dropWhile_append]
      have hne : ((pad k (r / 10)).dropWhile (· == 48)).isEmpty = false := by
        rw [ih]
        cases hd : Lib.decDigits (r / 10) with
        | nil => have := Lib.decDigits_length (r / 10); rw [hd] at this; have := Lib.nDigits_pos (r / 10); simp at *; omega
        | cons a l => rfl
      rw [hne]
      rfl
theorem ba_eq {t : ByteArray} {L : List UInt8} (h : t.data.toList = L) : t = ⟨L.toArray⟩ := by
  cases t with | mk d => subst h; simp
theorem ba_tail {t : ByteArray} {c : UInt8} {r : List UInt8} (h : t.data.toList = c :: r) : (t.extract 1 t.size).data.toList = r ∧ (t.extract 1 t.size).size + 1 = t.size := by
  have hl : r.length + 1 = t.size := by rw [← bytes_len, h, List.length_cons]
  have e : (t.extract 1 t.size).data.toList = r := by
    rw [ByteArray.data_extract, Array.toList_extract, h, List.extract_eq_take_drop]
    show List.take _ r = r
    exact List.take_of_length_le (by omega)
  exact ⟨e, by rw [← bytes_len, e, hl]⟩
theorem conv_digit (w : World) : ∀ (d : Nat), d < 10 → (convert 21 9 (.int .i32 (48 + (d : Int)))).run Tryd.prog w = .ok (.string ⟨#[UInt8.ofNat (48 + d)]⟩) w
  | 0, _ => by kernel_rfl
  | 1, _ => by kernel_rfl
  | 2, _ => by kernel_rfl
  | 3, _ => by kernel_rfl
  | 4, _ => by kernel_rfl
  | 5, _ => by kernel_rfl
  | 6, _ => by kernel_rfl
  | 7, _ => by kernel_rfl
  | 8, _ => by kernel_rfl
  | 9, _ => by kernel_rfl
  | d + 10, h => by omega

set_option maxRecDepth 100000 in
set_option maxHeartbeats 3200000 in
theorem rformat_calls (w : World) (v : Value) (z : Int) (h : IsInt w v z) (l : Lim 100000 z) :
    Calls Tryd.prog 10 #[v] w fun e w' => e = .returned (.string ⟨(Lib.itoa z).toArray⟩) ∧ Ext w w' := by
  obtain ⟨ao, cap, s, n, rfl, h1, h2, h3, H4, H5, H6⟩ := h.open_
  obtain ⟨W, hWW, eW, c0, c1⟩ := box1 w (.bool s) (.slice ao (limbs n).length cap) 24
  rcases Nat.eq_zero_or_pos n with h0 | h0
  · subst h0
    have hz : z = 0 := by have h5 := H5.out; cases s <;> simpa [sgn] using h5
    subst hz
    have HR : Hid (Lib.itoa 0 = [48]) := by unfold Hid; exact (Lib.itoa_nonneg 0).trans (Lib.decDigits_one (by omega))
    rw [limbs_zero] at h1 c1 hWW
    clear H4 H5 H6 l h h3
    go_enter Tryd.func10, Tryd.ntmps10
    go_wp2
    go_ret
    exact ⟨by rw [HR.out]; rfl, (Ext.refl w).alloc _⟩
  · have hl : (limbs n).length ≤ 100000 := by unfold Lim at l; rw [← H4.out] at l; exact l
    have hlp : 0 < (limbs n).length := limbs_pos h0
    obtain ⟨b, off, rfl, hcell⟩ := h3.at_ hlp
    obtain ⟨xs, hxs⟩ : ∃ xs, xs = limbs n := ⟨_, rfl⟩
    have hdig : Dig xs := by rw [hxs]; exact dig_limbs n
    have hlast : xs.getD (xs.length - 1) 0 ≠ 0 := by rw [hxs]; exact limbs_last n (fun e => by rw [e] at hlp; simp at hlp)
    have hval : val xs = n := by rw [hxs]; exact val_limbs n
    rw [← hxs] at hl hlp hcell h1 c1 hWW h3 ⊢
    have hgr : (groups xs).dropWhile (· == 48) = Lib.decDigits n := by
      obtain ⟨L, hL⟩ : ∃ L, L + 1 = xs.length := ⟨xs.length - 1, by omega⟩
      have hsplit : xs = xs.take L ++ [xs.getD L 0] := by
        conv => lhs; rw [← List.take_append_drop L xs]
        congr 1
        rw [List.drop_eq_getElem_cons (by omega), List.getD_eq_getElem?_getD, List.getElem?_eq_getElem (by omega), List.drop_eq_nil_of_le (by omega)]
        rfl
      have ht0 : 0 < xs.getD L 0 := by have := hlast; rw [show xs.length - 1 = L by omega] at this; omega
      have ht9 : xs.getD L 0 < 1000000000 := hdig L
      have e2 := dec_limbs (xs.getD L 0) ht0 (xs.take L) (hdig.take L)
      rw [← hsplit, hval] at e2
      rw [e2]
      conv => lhs; rw [hsplit]
      rw [groups_snoc, List.dropWhile_append, pad_strip 9 _ ht0 (by omega)]
      have hne : (Lib.decDigits (xs.getD L 0)).isEmpty = false := by
        cases hd : Lib.decDigits (xs.getD L 0) with
        | nil => have := Lib.decDigits_length (xs.getD L 0); rw [hd] at this; have := Lib.nDigits_pos (xs.getD L 0); simp at *; omega
        | cons a l => rfl
      rw [hne]
      rfl
    have HG := Lib.hid hgr
    have HZ : Hid (Lib.itoa z = (if s = true then [45] else []) ++ Lib.decDigits n) := by
      unfold Hid
      have h5 := H5.out
      cases s
      · have : z = (n : Int) := h5
        subst this
        rw [Lib.itoa_nonneg]; rfl
      · have : z = -(n : Int) := h5
        subst this
        rw [Lib.itoa_neg n h0]; rfl
    have hcW : ∀ k, k < xs.length → W.cell? ⟨b, off + k, none⟩ = some (.int .u32 ((xs.getD k 0 : Nat) : Int)) := fun k hk => eW.cell (hcell k hk)
    have HC := Lib.hid hcW
    have HD : Hid (∀ k, xs.getD k 0 < 1000000000) := fun k => hdig k
    have HE := Lib.hid eW
    clear hgr hcW hcell hdig hlast hval hxs H4 H5 H6 h l h3 eW h1
    go_enter Tryd.func10, Tryd.ntmps10
    go_wp2
    go_loop [3, 4, 5, 6] (fun o i _ _ => ∃ (k : Nat) (t : ByteArray), k ≤ xs.length ∧ i = .int .i64 k ∧ o = .string t ∧ Hid (t.data.toList = groups (xs.take k))) (fun _ i _ _ => xs.length - (intOf i).toNat)
    case atStart => exact ⟨0, ⟨#[]⟩, Nat.zero_le _, rfl, rfl, rfl⟩
    case round =>
      obtain ⟨k, t, hk, rfl, rfl, HT⟩ := hrel
      by_cases hlt : k < xs.length
      · have hcx := HC.out k hlt
        obtain ⟨x, hx⟩ : ∃ x, x = xs.getD k 0 := ⟨_, rfl⟩
        have hx9 := HD.out k
        rw [← hx] at hcx hx9
        have hxI : (x : Int) ≤ 999999999 := by omega
        have HX := Lib.hid hx
        clear hx hx9
        have hltI : (k : Int) < (xs.length : Int) := by omega
        go_wp2
        go_loop [3, 5, 6] (fun o m j => ∃ (i q : Nat) (t2 : ByteArray), i ≤ 9 ∧ j = .int .i64 i ∧ m = .int .u32 q ∧ o = .string t2 ∧ (q : Int) ≤ 999999999 ∧ Hid (q = x / 10 ^ i) ∧ Hid (t2.data.toList = pad i x ++ t.data.toList)) (fun _ _ j => 9 - (intOf j).toNat)
        case atStart => exact ⟨0, x, t, by omega, rfl, rfl, rfl, hxI, by simp [Hid], rfl⟩
        case round =>
          obtain ⟨i, q, t2, hi, rfl, rfl, rfl, hq, HQ, HT2⟩ := hrel
          by_cases hi9 : i < 9
          · obtain ⟨r, hr⟩ : ∃ r, r = q % 10 := ⟨_, rfl⟩
            have hrI : (q : Int) % 10 = (r : Int) := by omega
            have hr9 : (r : Int) < 10 := by omega
            have hcv := conv_digit W r (by omega)
            have HR := Lib.hid hr
            clear hr
            have hiI : (i : Int) < 9 := by omega
            have hsz : ¬ 9223372036854775807 < 1 + t2.size := by
              have e1 := congrArg List.length HT2.out
              have e2 := congrArg List.length HT.out
              rw [bytes_len, List.length_append, pad_length, bytes_len] at e1
              rw [bytes_len, groups_length, List.length_take] at e2
              omega
            go_wp2
            go_round
            case rel =>
              refine ⟨i + 1, q / 10, _, by omega, by go_num, by go_num, rfl, by omega, ?_, ?_⟩
              · unfold Hid; rw [HQ.out, Nat.div_div_eq_div_mul, Nat.pow_succ]
              · unfold Hid
                rw [pad_front, List.cons_append, ← HT2.out, ← HQ.out, ← HR.out]
                simp
            case measure => simp [intOf]; omega
          · have e9 : i = 9 := by omega
            subst e9
            go_wp2
            go_round
            case rel =>
              refine ⟨k + 1, by omega, by go_num, ?_⟩
              unfold Hid
              rw [HT2.out, HT.out, List.take_succ_eq_append_getElem hlt, groups_snoc]
              congr 2
              rw [HX.out, List.getD_eq_getElem?_getD, List.getElem?_eq_getElem hlt]
              rfl
            case measure => simp [intOf]; omega
      · have ek : k = xs.length := by omega
        subst ek
        have HT' : Hid (t.data.toList.dropWhile (· == 48) = Lib.decDigits n) := by
          unfold Hid
          rw [HT.out, List.take_of_length_le (Nat.le_refl _), HG.out]
        have HN : Hid (Lib.decDigits n ≠ []) := by
          intro e
          have := Lib.decDigits_length n
          rw [e] at this
          have := Lib.nDigits_pos n
          simp at *
          omega
        have HSZ : Hid (t.size ≤ 1000000) := by
          unfold Hid
          have e2 := congrArg List.length HT.out
          rw [bytes_len, groups_length, List.length_take] at e2
          omega
        clear HT HG HC HD
        go_wp2
        go_loop [3] (fun o => ∃ t2 : ByteArray, o = .string t2 ∧ t2.size ≤ 1000000 ∧ Hid (t2.data.toList.dropWhile (· == 48) = Lib.decDigits n)) (fun o => match o with | .string t2 => t2.size | _ => 0)
        case atStart => exact ⟨t, rfl, HSZ.out, HT'⟩
        case round =>
          obtain ⟨t2, rfl, hsz2, HT2⟩ := hrel
          obtain ⟨c, r, hcr⟩ : ∃ c r, t2.data.toList = c :: r := by
            cases hh : t2.data.toList with
            | nil => exact absurd (by rw [← HT2.out, hh]; rfl) HN.out
            | cons c r => exact ⟨c, r, rfl⟩
          have hrl : r.length + 1 = t2.size := by rw [← bytes_len, hcr, List.length_cons]
          have hpos : 0 < t2.size := by omega
          have hc0 : t2[0] = c := by
            have : t2.data.toList[0]'(by rw [hcr]; simp) = c := by simp [hcr]
            exact this
          have HCR := Lib.hid hcr
          clear hcr
          by_cases hz : c = 48
          · have f0 : ((t2[0].toNat : Int) == 48) = true := by rw [hc0, hz]; rfl
            have HZC := Lib.hid hz
            clear hz hc0
            go_wp2
            go_round
            case rel =>
              obtain ⟨e1, e2⟩ := ba_tail HCR.out
              refine ⟨_, rfl, by omega, ?_⟩
              unfold Hid
              have e := HT2.out
              rw [HCR.out, HZC.out, List.dropWhile_cons] at e
              rw [e1]
              exact e
            case measure =>
              have e2 := (ba_tail HCR.out).2
              show (t2.extract 1 t2.size).size < t2.size
              omega
          · have f0 : ((t2[0].toNat : Int) == 48) = false := by
              rw [hc0, beq_eq_false_iff_ne]
              intro e
              exact hz (UInt8.toNat_inj.1 (by have : (48 : UInt8).toNat = 48 := rfl; omega))
            have HF : Hid (t2.data.toList = Lib.decDigits n) := by
              unfold Hid
              have e := HT2.out
              rw [HCR.out, List.dropWhile_cons, beq_eq_false_iff_ne.2 hz] at e
              rw [HCR.out]
              exact e
            clear hz hc0
            have hb : ¬ 9223372036854775807 < 1 + t2.size := by omega
            have HB := Lib.hid (ba_eq HF.out)
            cases s
            · go_wp2
              go_ret
              refine ⟨?_, HE.out⟩
              rw [HZ.out]
              show Ending.returned (Value.string t2) = _
              rw [HB.out]
              rfl
            · go_wp2
              go_ret
              refine ⟨?_, HE.out⟩
              rw [HZ.out]
              show Ending.returned (Value.string _) = _
              congr 2
              refine ba_eq ?_
              simp [HF.out]
end Go.Proofs.YtmofkmdacfdejaaDoor
end

/- ---- Parse ---- -/
section
/-
  Parse, at every string.
-/
set_option maxRecDepth 100000
namespace Go.Proofs.YtmofkmdacfdejaaDoor
open Go.RowKit Go.Shelf

def ren103 : Go.Shelf.Ren := ⟨fun | 103 => 20 | 210 => 40 | 206 => 58 | n => n, fun | 9 => 9 | 4 => 4 | 24 => 47 | 3 => 3 | n => n, fun | n => n⟩
theorem lays103 : Go.Proofs.Lays.n103 Tryd.prog ren103 := {
  mixed := by kernel_rfl
  f103 := Tryd.func20.trans (congrArg some (by kernel_rfl))
  f206 := Tryd.func58.trans (congrArg some (by kernel_rfl))
  f210 := Tryd.func40.trans (congrArg some (by kernel_rfl))
  t3 := Tryd.underlying3
  a3 := Tryd.isAgg3
  z3 := Tryd.sizeOf3
  v3 := Tryd.zeroValue3
  t4 := Tryd.underlying4
  a4 := Tryd.isAgg4
  z4 := Tryd.sizeOf4
  v4 := Tryd.zeroValue4
  t9 := Tryd.underlying9
  a9 := Tryd.isAgg9
  z9 := Tryd.sizeOf9
  v9 := Tryd.zeroValue9
  t24 := Tryd.underlying47
  a24 := Tryd.isAgg47
  z24 := Tryd.sizeOf47
  v24 := Tryd.zeroValue47 }
/-- A minus sign in front, and what stands behind it. -/
def negL (l : List UInt8) : Bool := Lib.hasPrefix l [45]
def digL (l : List UInt8) : List UInt8 := Lib.trimPrefix l [45]
theorem cut_calls (w : World) (s : ByteArray) : Calls Tryd.prog 20 #[.string s, .string ⟨#[45]⟩] w fun e w' => ∃ D : ByteArray, e = .returned (.tuple #[.string D, .bool (negL s.data.toList)]) ∧ D.data.toList = digL s.data.toList ∧ w = w' := by
  refine (Any.strings_CutPrefix lays103 s ⟨#[45]⟩ w).mono ?_
  rintro e w' ⟨h1, h2⟩
  exact ⟨_, h1, rfl, h2.symm⟩
theorem digL_len (l : List UInt8) : (digL l).length ≤ l.length := by
  unfold digL Lib.trimPrefix
  split
  · rw [List.length_drop]; omega
  · exact Nat.le_refl _
def parseOK (l : List UInt8) : Bool := decide (l.length ≤ 65536) && (numB (digL l) && !(negL l && digL l == [48]))
def parseV (l : List UInt8) : Int := sgn (negL l) (dv (digL l))
def RetParse (l : List UInt8) (w : World) (e : Ending) (w' : World) : Prop :=
  ∃ v, e = .returned (.tuple #[v, .int .i64 (if parseOK l then 0 else 2)]) ∧ IsInt w' v (if parseOK l then parseV l else 0) ∧ Ext w w'

set_option maxRecDepth 100000 in
set_option maxHeartbeats 1600000 in
theorem parse_bad (w : World) (s : ByteArray) (hs : s.size ≤ 9223372036854775807) (hb : parseOK s.data.toList = false) : Calls Tryd.prog 8 #[.string s] w (RetParse s.data.toList w) := by
  have fin : ∀ (W w1 : World), Ext w W → W.heap.size = w.heap.size + 1 → W.cell? ⟨w.heap.size, 0, none⟩ = some (.bool false) → W.cell? ⟨w.heap.size, 1, none⟩ = some (.slice none 0 0) → True := fun _ _ _ _ _ _ => trivial
  clear fin
  obtain ⟨W, hW, eW, _, r0, r1, f0, f1⟩ := res_new w 24
  have HB := Lib.hid hb
  have hl := bytes_len s
  have hcase : 65536 < s.size ∨ (¬ 65536 < s.size ∧ (numB (digL s.data.toList) = false ∨ (numB (digL s.data.toList) = true ∧ negL s.data.toList = true ∧ digL s.data.toList = [48]))) := by
    unfold parseOK at hb
    by_cases h1 : 65536 < s.size
    · exact .inl h1
    · refine .inr ⟨h1, ?_⟩
      rw [decide_eq_true (by omega), Bool.true_and] at hb
      cases h2 : numB (digL s.data.toList)
      · exact .inl rfl
      · right
        rw [h2, Bool.true_and] at hb
        simp at hb
        exact ⟨rfl, hb.1, hb.2⟩
  clear hb hl
  go_enter Tryd.func8, Tryd.ntmps8
  go_wp2_with fail
  clear hW
  refine (cut_calls _ s).mono ?_
  rintro e w1 ⟨D, rfl, hD, rfl⟩
  have hfin : Ext w ((W.setCell ⟨w.heap.size, 0, none⟩ (.bool false)).setCell ⟨w.heap.size, 1, none⟩ (.slice none 0 0)) := (eW.setCell (p := ⟨w.heap.size, 0, none⟩) (Nat.le_refl _) _).setCell (p := ⟨w.heap.size, 1, none⟩) (Nat.le_refl _) _
  have HF := Lib.hid hfin
  have hDs : D.size ≤ s.size := by rw [← bytes_len, hD, ← bytes_len]; exact digL_len _
  have HD := Lib.hid hD
  have HN := Lib.hid (isNumeral_calls W D (by omega))
  clear hfin hD
  rcases hcase with h1 | ⟨h1, h2 | ⟨h2, h3, h4⟩⟩
  · have g1 : (65536 : Int) < (s.size : Int) := by omega
    clear h1
    go_wp2
    exact bodyPost_ret (v := .tuple #[.agg #[.bool false, .slice none 0 0], .int .i64 2]) (by simp [results, Tryd.results8, go_sem, r0, r1]) rfl ⟨_, by rw [HB.out]; rfl, by rw [HB.out]; exact isInt_zero _, HF.out⟩
  · have g1 : ¬ (65536 : Int) < (s.size : Int) := by omega
    clear h1
    go_wp2_with fail
    refine HN.out.mono ?_
    rintro e w1 ⟨rfl, rfl⟩
    rw [HD.out, h2]
    go_wp2
    exact bodyPost_ret (v := .tuple #[.agg #[.bool false, .slice none 0 0], .int .i64 2]) (by simp [results, Tryd.results8, go_sem, r0, r1]) rfl ⟨_, by rw [HB.out]; rfl, by rw [HB.out]; exact isInt_zero _, HF.out⟩
  · have g1 : ¬ (65536 : Int) < (s.size : Int) := by omega
    have hd : D.toList = [48] := by rw [ByteArray.toList_eq, HD.out, h4]
    have hd2 : (D.toList == [48]) = true := by rw [hd]; rfl
    clear h1
    rw [h3]
    go_wp2_with fail
    refine HN.out.mono ?_
    rintro e w1 ⟨rfl, rfl⟩
    rw [HD.out, h2]
    go_wp2
    exact bodyPost_ret (v := .tuple #[.agg #[.bool false, .slice none 0 0], .int .i64 2]) (by simp [results, Tryd.results8, go_sem, r0, r1]) rfl ⟨_, by rw [HB.out]; rfl, by rw [HB.out]; exact isInt_zero _, HF.out⟩

theorem extract_list (D : ByteArray) (a b : Nat) : (D.extract a b).data.toList = (D.data.toList.take b).drop a := by
  rw [List.drop_take, ByteArray.data_extract, Array.toList_extract]
/-- What the loop of Parse keeps: the groups from the end, each in its place. -/
def ParseRel (w : World) (g : Nat) (D : List UInt8) (k : Nat) (zs : List Nat) (wr : World) : Prop :=
  zs.length = (D.length + 8) / 9 ∧ Dig zs ∧ Blk wr g zs ∧ Ext w wr ∧ val (zs.take k) = dv (D.drop (D.length - 9 * k))
theorem ParseRel.step {w : World} {g : Nat} {D : List UInt8} {k : Nat} {zs : List Nat} {wr : World} (h : ParseRel w g D k zs wr) (hg : w.heap.size ≤ g) (hk : k < zs.length) (hd : D.all digB = true) (x : Nat)
    (hx : x = dv ((D.take (D.length - 9 * k)).drop (D.length - 9 * k - 9))) : ParseRel w g D (k + 1) (zs.set k x) (wr.setCell ⟨g, k, none⟩ (.int .u32 (x : Int))) ∧ x < 1000000000 := by
  obtain ⟨h1, h2, h3, h4, h5⟩ := h
  have hL : 9 * k < D.length := by omega
  obtain ⟨e, he⟩ : ∃ e, e = D.length - 9 * k := ⟨_, rfl⟩
  rw [← he] at hx h5
  have hall : ((D.take e).drop (e - 9)).all digB = true := by
    rw [List.all_eq_true] at hd ⊢
    exact fun y hy => hd y (List.mem_of_mem_take (List.mem_of_mem_drop hy))
  have hxl : ((D.take e).drop (e - 9)).length ≤ 9 := by rw [List.length_drop, List.length_take]; omega
  have hxb : x < 1000000000 := by
    have := dv_lt hall
    rw [← hx] at this
    have h10 := Nat.pow_le_pow_right (n := 10) (by omega) hxl
    omega
  refine ⟨⟨by simpa using h1, h2.set k hxb, h3.set k x hk, h4.setCell (p := ⟨g, k, none⟩) hg _, ?_⟩, hxb⟩
  rw [val_take_set zs k x hk, h5]
  have hsplit : D.drop (D.length - 9 * (k + 1)) = (D.take e).drop (e - 9) ++ D.drop e := by
    rw [show D.length - 9 * (k + 1) = e - 9 by omega]
    rw [← List.drop_append_of_le_length (by rw [List.length_take]; omega), List.take_append_drop]
  rw [hsplit, dv_append, ← hx, List.length_drop, show D.length - e = 9 * k by omega, Nat.pow_mul, show (10 : Nat) ^ 9 = 1000000000 from rfl, Nat.mul_comm x]
  omega

set_option maxRecDepth 100000 in
set_option maxHeartbeats 3200000 in
theorem parse_good (w : World) (s : ByteArray) (hs : s.size ≤ 9223372036854775807) (hb : parseOK s.data.toList = true) : Calls Tryd.prog 8 #[.string s] w (RetParse s.data.toList w) := by
  obtain ⟨W, hW, eW, hz, r0, r1, f0, f1⟩ := res_new w 24
  have HB := Lib.hid hb
  have hl := bytes_len s
  have hcase : ¬ 65536 < s.size ∧ numB (digL s.data.toList) = true ∧ (negL s.data.toList = false ∨ digL s.data.toList ≠ [48]) := by
    unfold parseOK at hb
    simp only [Bool.and_eq_true, decide_eq_true_iff, Bool.not_eq_true', Bool.and_eq_false_iff, beq_eq_false_iff_ne] at hb
    exact ⟨by omega, hb.2.1, hb.2.2⟩
  clear hb hl
  go_enter Tryd.func8, Tryd.ntmps8
  go_wp2_with fail
  clear hW
  refine (cut_calls _ s).mono ?_
  rintro e w1 ⟨D, rfl, hD, rfl⟩
  have hDs : D.size ≤ s.size := by rw [← bytes_len, hD, ← bytes_len]; exact digL_len _
  have HD := Lib.hid hD
  have HN := Lib.hid (isNumeral_calls W D (by omega))
  obtain ⟨h1, h2, h3⟩ := hcase
  have g1 : ¬ (65536 : Int) < (s.size : Int) := by omega
  have hDb : D.size ≤ 65536 := by omega
  have HNum := Lib.hid h2
  rw [← hD] at h2 h3
  have HAll : Hid (D.data.toList.all digB = true) := by
    unfold Hid
    unfold numB at h2
    simp only [Bool.and_eq_true] at h2
    exact h2.2.2
  have hne : negL s.data.toList = true → (D.toList == [48]) = false := by
    intro hn
    rcases h3 with h3 | h3
    · rw [h3] at hn; cases hn
    · rw [ByteArray.toList_eq, beq_eq_false_iff_ne]; exact h3
  have HV : Hid (parseV s.data.toList = sgn (negL s.data.toList) (dv D.data.toList)) := by unfold Hid parseV; rw [hD]
  clear hD h1 h2 h3 hDs
  generalize negL s.data.toList = neg at *
  have hcs : neg = false ∨ neg = true ∧ (D.toList == [48]) = false := by
    cases hn : neg
    · exact .inl rfl
    · exact .inr ⟨rfl, hne hn⟩
  clear hne
  obtain ⟨K, hK⟩ : ∃ K, K = (D.size + 8) / 9 := ⟨_, rfl⟩
  have hKI : ((D.size : Int) + 9 - 1).tdiv 9 = (K : Int) := by rw [Int.tdiv_eq_ediv_of_nonneg (by omega)]; omega
  have hKI2 : ((D.size : Int) + 8).tdiv 9 = (K : Int) := by rw [Int.tdiv_eq_ediv_of_nonneg (by omega)]; omega
  have hmk := run_mk K (by omega) ↑K rfl
  have hKb : K ≤ 8000 := by omega
  have HK := Lib.hid hK
  clear hK
  rcases hcs with rfl | ⟨rfl, hq⟩
  all_goals
    go_wp2_with fail
    refine HN.out.mono ?_
    rintro e w1 ⟨rfl, rfl⟩
    rw [HD.out, HNum.out]
    go_wp2_with fail
    clear hmk hKI hKI2
    have hDL := bytes_len D
    have h0 : ParseRel W (w.heap.size + 1) D.data.toList 0 (List.replicate K 0) (W.alloc (.cells (u32s (List.replicate K 0)) 38)) := by
      refine ⟨by rw [List.length_replicate, HK.out, hDL], Dig.replicate _, ?_, (Ext.refl W).alloc _, ?_⟩
      · have := Blk.new W (List.replicate K 0)
        rwa [hz] at this
      · rw [List.drop_of_length_le (by omega)]; rfl
    go_loopw [38] (fun i wr => ∃ (k : Nat) (zs : List Nat), k ≤ K ∧ i = .int .i64 k ∧ ParseRel W (w.heap.size + 1) D.data.toList k zs wr) (fun i _ => K - (intOf i).toNat)
    case atStart => exact ⟨0, _, Nat.zero_le _, rfl, h0⟩
    case round =>
      obtain ⟨k, zs, hk, rfl, hR⟩ := hrel
      clear h0
      by_cases hlt : k < K
      · have hzl : zs.length = K := by rw [hR.1, hDL, ← HK.out]
        have hzc := hR.2.2.1.cell k (by omega)
        have hzf := hR.2.2.1.frozen k
        have h9k : 9 * k < D.size := by have := HK.out; omega
        obtain ⟨e, he⟩ : ∃ e, e = D.size - 9 * k := ⟨_, rfl⟩
        have heI : (D.size : Int) - (k : Int) * 9 = (e : Int) := by omega
        have hst := fun x hx => hR.step (by omega) (by omega) HAll.out x hx
        rw [hDL, ← he] at hst
        have HST := Lib.hid hst
        have HRR := Lib.hid hR
        clear hst hR
        obtain ⟨lo, hlo⟩ : ∃ lo, lo = e - 9 := ⟨_, rfl⟩
        have hmx : max (0 : Int) ((e : Int) - 9) = (lo : Int) := by omega
        rw [← hlo] at HST
        have he1 : (lo : Int) ≤ (e : Int) := by omega
        have he2 : (e : Int) ≤ (D.size : Int) := by omega
        have heb : (e : Int) ≤ 65536 := by omega
        have hlN : lo ≤ e := by omega
        have heN : e ≤ D.size := by omega
        have hel : e - lo ≤ 9 := by omega
        have HE := Lib.hid (And.intro he (And.intro hlo (And.intro h9k hel)))
        clear he hlo h9k hel
        have hgv := groupValue_calls wr (D.extract lo e) (by rw [ByteArray.size_extract, Nat.min_eq_left heN]; exact HE.out.2.2.2) (by
          rw [extract_list]
          have ha := HAll.out
          rw [List.all_eq_true] at ha ⊢
          exact fun y hy => ha y (List.mem_of_mem_take (List.mem_of_mem_drop hy)))
        rw [extract_list] at hgv
        obtain ⟨x, hx⟩ : ∃ x, x = dv (List.drop lo (List.take e D.data.toList)) := ⟨_, rfl⟩
        rw [← hx] at hgv
        have HGV := Lib.hid hgv
        have HX := Lib.hid (HST.out x hx)
        have hxb : (x : Int) < 1000000000 := by have := HX.out.2; omega
        clear hgv hx HST
        go_wp2_with fail
        refine HGV.out.mono ?_
        rintro e' w1 ⟨rfl, rfl⟩
        go_wp2
        go_roundw
        case rel => exact ⟨k + 1, _, by omega, by go_num, HX.out.1⟩
        case measure => simp [intOf]; omega
      · have e : k = K := by omega
        subst e
        have HRR := Lib.hid hR
        have hzl : zs.length = k := by rw [hR.1, hDL, ← HK.out]
        have HZV : Hid (val zs = dv D.data.toList) := by
          have h5 := hR.2.2.2.2
          rw [List.take_of_length_le (by omega), hDL, show D.size - 9 * k = 0 by have := HK.out; omega, List.drop_zero] at h5
          exact h5
        have hsg : ∀ neg, Calls Tryd.prog 23 #[.bool neg, .slice (some ⟨w.heap.size + 1, 0, none⟩) k k] wr (Ret (fun v w' => IsInt w' v (sgn neg (val zs))) wr) := fun neg => by
          have := signed_calls wr neg (some ⟨w.heap.size + 1, 0, none⟩) zs k (by omega) (by omega) hR.2.2.1.cells hR.2.1
          rwa [hzl] at this
        have HSG := Lib.hid hsg
        have HZL := Lib.hid hzl
        clear hzl hsg
        have eR := hR.2.2.2.1
        replace r0 := eR.cell r0
        replace r1 := eR.cell r1
        replace f0 := eR.frozen (p := ⟨w.heap.size, 0, none⟩) (by show w.heap.size < W.heap.size; omega) f0
        replace f1 := eR.frozen (p := ⟨w.heap.size, 1, none⟩) (by show w.heap.size < W.heap.size; omega) f1
        replace eW := eW.trans eR
        clear hR eR
        go_wp2_with fail
        refine (HSG.out _).mono ?_
        rintro e' w1 ⟨v3, rfl, hI, e3⟩
        obtain ⟨ao3, cap3, s3, n3, rfl, _⟩ := IsInt.open_ hI
        replace f0 := e3.frozen (lt_of_cell r0) f0
        replace f1 := e3.frozen (lt_of_cell r1) f1
        replace r0 := e3.cell r0
        replace r1 := e3.cell r1
        go_wp2
        obtain ⟨u, hu, hu2, hu3⟩ := fin_int hI r0 r1 (Nat.le_refl _) (eW.trans e3)
        injection hu with hu
        subst hu
        exact bodyPost_ret (v := .tuple #[.agg #[.bool s3, .slice ao3 (limbs n3).length cap3], .int .i64 0]) (by simp [results, Tryd.results8, go_sem, r0, r1]) rfl ⟨_, by rw [HB.out]; rfl, by rw [HB.out, if_pos rfl, HV.out, ← HZV.out]; exact hu2, hu3⟩

/-- What Parse does, at every string. -/
theorem parse_calls (w : World) (s : ByteArray) (hs : s.size ≤ 9223372036854775807) : Calls Tryd.prog 8 #[.string s] w (RetParse s.data.toList w) := by
  cases hb : parseOK s.data.toList
  · exact parse_bad w s hs hb
  · exact parse_good w s hs hb

end Go.Proofs.YtmofkmdacfdejaaDoor
end

/- ---- Rgb ---- -/
section
/-
  Parse of the reference, at every string.
-/
set_option maxRecDepth 100000
namespace Go.Proofs.YtmofkmdacfdejaaDoor
open Go.RowKit Go.Shelf

theorem limb_at {zs : List Nat} (h : Dig zs) (k : Nat) (hk : k < zs.length) : zs.getD k 0 = val zs / 1000000000 ^ k % 1000000000 := by
  have e1 := val_split zs k (by omega)
  have e2 := val_drop zs k hk
  have e3 : val (zs.take k) < 1000000000 ^ k := by
    have := val_lt (h.take k)
    rwa [List.length_take, Nat.min_eq_left (by omega)] at this
  have e4 := h k
  have hp : 0 < 1000000000 ^ k := Nat.pow_pos (by omega)
  rw [e1, Nat.add_mul_div_left _ _ hp, Nat.div_eq_of_lt e3, Nat.zero_add, e2]
  omega
/-- What the loop of the reference's Parse keeps: each digit in its place. -/
def ParR (w : World) (g m : Nat) (D : List UInt8) (i : Nat) (wr : World) : Prop :=
  ∃ zs : List Nat, zs.length = m ∧ Dig zs ∧ Blk wr g zs ∧ Ext w wr ∧ val zs = dv (D.take i) * 10 ^ (D.length - i)
theorem ParR.at_ {w : World} {g m : Nat} {D : List UInt8} {i : Nat} {wr : World} (h : ParR w g m D i wr) (hg : w.heap.size ≤ g) (hm : m = D.length / 9 + 1) (hi : i < D.length) (c : UInt8) (ht : D.take (i + 1) = D.take i ++ [c]) (hc : c.toNat - 48 ≤ 9) (k p : Nat) (hk : k = (D.length - 1 - i) / 9) (hp : p = (D.length - 1 - i) % 9) :
    ∃ z : Nat, z + (c.toNat - 48) * 10 ^ p < 1000000000 ∧ wr.cell? ⟨g, k, none⟩ = some (.int .u32 (z : Int)) ∧ wr.frozen? ⟨g, k, none⟩ = false ∧ k < m ∧
      Hid (∀ (nq : Nat) (V : Int), V = ((z + (c.toNat - 48) * 10 ^ p : Nat) : Int) → ParR w g m D (i + 1) ((wr.drewN nq).setCell ⟨g, k, none⟩ (.int .u32 V))) := by
  obtain ⟨zs, h1, h2, h3, h4, h5⟩ := h
  have hkm : k < zs.length := by rw [h1]; omega
  have hz := limb_at h2 k hkm
  generalize hd : c.toNat - 48 = d at *
  have hat : D.length - i = 9 * k + (p + 1) := by omega
  have hB : (1000000000 : Nat) ^ k = 10 ^ (9 * k) := by rw [Nat.pow_mul]
  have hpk : 0 < 10 ^ (9 * k) := Nat.pow_pos (by omega)
  have hX : (10 : Nat) ^ (p + 1) = 10 * 10 ^ p := by rw [Nat.pow_succ, Nat.mul_comm]
  have hXY : (1000000000 : Nat) = 10 ^ (p + 1) * 10 ^ (8 - p) := by rw [← Nat.pow_add, show p + 1 + (8 - p) = 9 by omega]
  have hzz : zs.getD k 0 = 10 ^ (p + 1) * (dv (D.take i) % 10 ^ (8 - p)) := by
    rw [hz, h5, hat, Nat.pow_add, hB, Nat.mul_left_comm, Nat.mul_div_cancel_left _ hpk, Nat.mul_comm (dv _)]
    conv => lhs; rw [hXY]
    rw [Nat.mul_mod_mul_left]
  have hbd : zs.getD k 0 + d * 10 ^ p < 1000000000 := by
    have hY : 0 < 10 ^ (8 - p) := Nat.pow_pos (by omega)
    have hq := Nat.mod_lt (dv (D.take i)) hY
    have e1 : 10 ^ (p + 1) * (dv (D.take i) % 10 ^ (8 - p) + 1) ≤ 10 ^ (p + 1) * 10 ^ (8 - p) := Nat.mul_le_mul_left _ hq
    rw [← hXY, Nat.mul_add, Nat.mul_one, ← hzz] at e1
    have e2 : d * 10 ^ p ≤ 9 * 10 ^ p := Nat.mul_le_mul_right _ hc
    have e3 : 0 < 10 ^ p := Nat.pow_pos (by omega)
    omega
  refine ⟨zs.getD k 0, hbd, h3.cell k hkm, h3.frozen k, by omega, fun nq V hV => ?_⟩
  have h3' : Blk (wr.drewN nq) g zs := h3
  refine ⟨zs.set k (zs.getD k 0 + d * 10 ^ p), by simpa using h1, h2.set k hbd, h3'.set' _ _ hkm hV, (h4.drewN nq).setCell (p := ⟨g, k, none⟩) hg _, ?_⟩
  have e := val_set zs k (zs.getD k 0 + d * 10 ^ p) hkm
  rw [ht, dv_snoc, hd]
  have e1 : 10 ^ (D.length - (i + 1)) = 10 ^ (9 * k) * 10 ^ p := by rw [← Nat.pow_add]; congr 1; omega
  have e2 : val zs = dv (D.take i) * 10 * (10 ^ (9 * k) * 10 ^ p) := by
    rw [h5, hat, Nat.pow_add, hX, Nat.mul_assoc, Nat.mul_left_comm (10 ^ (9 * k))]
  rw [e1, Nat.add_mul, ← e2]
  rw [Nat.mul_add, hB] at e
  have e3 : 10 ^ (9 * k) * (d * 10 ^ p) = d * (10 ^ (9 * k) * 10 ^ p) := by rw [Nat.mul_left_comm]
  omega
theorem negL_cons (c : UInt8) (r : List UInt8) : negL (c :: r) = (c == 45) ∧ digL (c :: r) = if c == 45 then r else c :: r := by
  unfold negL digL Lib.trimPrefix Lib.hasPrefix
  by_cases h : c = 45
  · subst h; simp
  · have : (c == 45) = false := by rw [beq_eq_false_iff_ne]; exact h
    simp [this, List.isPrefixOf]
    exact fun e => h e.symm
theorem parse_early (l : List UInt8) (h : 65536 < l.length ∨ digL l = [] ∨ (digL l).headD 0 = 48 ∧ l ≠ [48]) : parseOK l = false := by
  unfold parseOK
  rcases h with h | h | ⟨h1, h2⟩
  · rw [decide_eq_false (by omega), Bool.false_and]
  · have : numB (digL l) = false := by rw [h]; rfl
    rw [this, Bool.false_and, Bool.and_false]
  · cases hd : digL l with
    | nil => rw [hd] at h1; cases h1
    | cons c r =>
      rw [hd] at h1
      have hc : c = 48 := h1
      subst hc
      cases r with
      | cons a t =>
        have : numB (48 :: a :: t) = false := by simp [numB]
        rw [this, Bool.false_and, Bool.and_false]
      | nil =>
        have hn : negL l = true := by
          cases l with
          | nil => cases hd
          | cons x t =>
            obtain ⟨e1, e2⟩ := negL_cons x t
            rw [e1]
            cases hx : (x == 45) with
            | true => rfl
            | false =>
              rw [hx] at e2
              exact absurd (e2.symm.trans hd) h2
        rw [hn]
        simp
theorem parse_late (l : List UInt8) (h1 : l.length ≤ 65536) (h2 : digL l ≠ []) (h3 : (digL l).headD 0 = 48 → l = [48]) : parseOK l = (digL l).all digB := by
  unfold parseOK
  rw [decide_eq_true h1, Bool.true_and]
  by_cases h : (digL l).headD 0 = 48
  · rw [h3 h]
    rfl
  · cases hd : digL l with
    | nil => exact absurd hd h2
    | cons c r =>
      rw [hd] at h
      have hc : (c == 48) = false := by rw [beq_eq_false_iff_ne]; exact h
      have e1 : ((c :: r) == [48]) = false := by
        rw [beq_eq_false_iff_ne]
        intro e
        injection e with e _
        exact h e
      rw [e1, Bool.and_false]
      unfold numB
      simp only [List.headD_cons, hc, Bool.false_and, Bool.not_false, Bool.true_and, Bool.and_true, List.isEmpty_cons]
def DigAt (D : ByteArray) (k : Nat) : Prop := ∀ c : UInt8, D.data.toList[k]? = some c → digB c = true
theorem all_of (l : List UInt8) (h : ∀ (k : Nat) (c : UInt8), l[k]? = some c → digB c = true) : l.all digB = true := by
  rw [List.all_eq_true]
  intro x hx
  obtain ⟨i, hi, rfl⟩ := List.mem_iff_getElem.1 hx
  exact h i _ (List.getElem?_eq_getElem hi)

set_option maxRecDepth 100000 in
set_option maxHeartbeats 6400000 in
theorem rparse_calls (w : World) (s : ByteArray) (hs : s.size ≤ 9223372036854775807) : Calls Tryd.prog 9 #[.string s] w (RetParse s.data.toList w) := by
  obtain ⟨W, hW, eW, hz, r0, r1, f0, f1⟩ := res_new w 24
  rcases Nat.eq_zero_or_pos s.size with h0 | h0
  · have hl : s.data.toList = [] := List.eq_nil_of_length_eq_zero (by rw [bytes_len]; exact h0)
    have HB : Hid (parseOK s.data.toList = false) := by unfold Hid; rw [hl]; rfl
    have e1 : s.toList = [] := by rw [ByteArray.toList_eq, hl]
    have e2 : s.toList.isEmpty = true := by rw [e1]; rfl
    have hfin : Ext w ((W.setCell ⟨w.heap.size, 0, none⟩ (.bool false)).setCell ⟨w.heap.size, 1, none⟩ (.slice none 0 0)) := (eW.setCell (p := ⟨w.heap.size, 0, none⟩) (Nat.le_refl _) _).setCell (p := ⟨w.heap.size, 1, none⟩) (Nat.le_refl _) _
    have HF := Lib.hid hfin
    clear hl hfin hs
    go_enter Tryd.func9, Tryd.ntmps9
    go_wp2
    exact bodyPost_ret (v := .tuple #[.agg #[.bool false, .slice none 0 0], .int .i64 2]) (by simp [results, Tryd.results9, go_sem, r0, r1]) rfl ⟨_, by rw [HB.out]; rfl, by rw [HB.out]; exact isInt_zero _, HF.out⟩
  · obtain ⟨c, r, hl⟩ : ∃ c r, s.data.toList = c :: r := by
      cases hh : s.data.toList with
      | nil => have := bytes_len s; rw [hh] at this; simp at this; omega
      | cons c r => exact ⟨c, r, rfl⟩
    have hc0 : s[0] = c := by
      have : s.data.toList[0]'(by rw [hl]; simp) = c := by simp [hl]
      exact this
    have g1 : (0 : Int) < (s.size : Int) := by omega
    have hfin : Ext w ((W.setCell ⟨w.heap.size, 0, none⟩ (.bool false)).setCell ⟨w.heap.size, 1, none⟩ (.slice none 0 0)) := (eW.setCell (p := ⟨w.heap.size, 0, none⟩) (Nat.le_refl _) _).setCell (p := ⟨w.heap.size, 1, none⟩) (Nat.le_refl _) _
    have HF := Lib.hid hfin
    clear hfin hs
    by_cases hc : c = 45
    · have g0 : ((s[0].toNat : Int) == 45) = true := by rw [hc0, hc]; rfl
      obtain ⟨D, hex⟩ : ∃ D, s.extract 1 s.size = D := ⟨_, rfl⟩
      have HDL : D.data.toList = digL s.data.toList := by
        rw [← hex, (ba_tail hl).1, hl, (negL_cons c r).2, hc]
        rfl
      have HNN : negL s.data.toList = true := by rw [hl, (negL_cons c r).1, hc]; rfl
      have hDs : D.size ≤ s.size := by have := (ba_tail hl).2; rw [hex] at this; omega
      clear hc hc0 hl
      have HDl : Hid (D.data.toList = digL s.data.toList) := HDL
      have HN : Hid (negL s.data.toList = true) := HNN
      clear HDL HNN
      rcases Nat.eq_zero_or_pos D.size with d0 | d0
      · have hl : D.data.toList = [] := List.eq_nil_of_length_eq_zero (by rw [bytes_len]; exact d0)
        have HB : Hid (parseOK s.data.toList = false) := parse_early _ (.inr (.inl (by rw [← HDl.out, hl])))
        have e1 : D.toList = [] := by rw [ByteArray.toList_eq, hl]
        have e2 : D.toList.isEmpty = true := by rw [e1]; rfl
        clear hl
        go_enter Tryd.func9, Tryd.ntmps9
        go_wp2
        exact bodyPost_ret (v := .tuple #[.agg #[.bool false, .slice none 0 0], .int .i64 2]) (by simp [results, Tryd.results9, go_sem, r0, r1]) rfl ⟨_, by rw [HB.out]; rfl, by rw [HB.out]; exact isInt_zero _, HF.out⟩
      have hne : D.toList.isEmpty = false := by
        rw [ByteArray.toList_eq]
        cases hh : D.data.toList with
        | nil => have := bytes_len D; rw [hh] at this; simp at this; omega
        | cons c r => rfl
      have hne2 : (!D.toList.isEmpty) = true := by rw [hne]; rfl
      have hne3 : ¬ D.toList = [] := by intro e; rw [e] at hne; cases hne
      obtain ⟨x, r', hx⟩ : ∃ x r, D.data.toList = x :: r := by
        cases hh : D.data.toList with
        | nil => have := bytes_len D; rw [hh] at this; simp at this; omega
        | cons c r => exact ⟨c, r, rfl⟩
      have hx0 : D[0] = x := by
        have : D.data.toList[0]'(by rw [hx]; simp) = x := by simp [hx]
        exact this
      have HX := Lib.hid hx
      clear hx
      by_cases hbig : 65536 < s.size
      · have g2 : (65536 : Int) < (s.size : Int) := by omega
        have HB : Hid (parseOK s.data.toList = false) := parse_early _ (.inl (by rw [bytes_len]; exact hbig))
        clear hbig hx0
        go_enter Tryd.func9, Tryd.ntmps9
        go_wp2
        exact bodyPost_ret (v := .tuple #[.agg #[.bool false, .slice none 0 0], .int .i64 2]) (by simp [results, Tryd.results9, go_sem, r0, r1]) rfl ⟨_, by rw [HB.out]; rfl, by rw [HB.out]; exact isInt_zero _, HF.out⟩
      have g2 : ¬ (65536 : Int) < (s.size : Int) := by omega
      by_cases hear : x = 48 ∧ s.data.toList ≠ [48]
      · have f48 : ((D[0].toNat : Int) == 48) = true := by rw [hx0, hear.1]; rfl
        have HB : Hid (parseOK s.data.toList = false) := parse_early _ (.inr (.inr ⟨by rw [← HDl.out, HX.out]; exact hear.1, hear.2⟩))
        have hq : (s.toList == [48]) = false := by rw [ByteArray.toList_eq, beq_eq_false_iff_ne]; exact hear.2
        have hq2 : ¬ s.toList = [48] := by rw [ByteArray.toList_eq]; exact hear.2
        clear hear hbig hx0
        go_enter Tryd.func9, Tryd.ntmps9
        go_wp2
        exact bodyPost_ret (v := .tuple #[.agg #[.bool false, .slice none 0 0], .int .i64 2]) (by simp [results, Tryd.results9, go_sem, r0, r1]) rfl ⟨_, by rw [HB.out]; rfl, by rw [HB.out]; exact isInt_zero _, HF.out⟩
      have HP : Hid (parseOK s.data.toList = D.data.toList.all digB) := by
        refine (parse_late s.data.toList (by rw [bytes_len]; omega) (by rw [← HDl.out, HX.out]; simp) ?_).trans (congrArg (fun l => List.all l digB) HDl.out.symm)
        intro e
        rw [← HDl.out, HX.out] at e
        exact Decidable.byContradiction fun h => hear ⟨e, h⟩
      have hcase : ((D[0].toNat : Int) == 48) = false ∨ (((D[0].toNat : Int) == 48) = true ∧ (s.toList == [48]) = true ∧ s.toList = [48]) := by
        by_cases h48 : x = 48
        · refine .inr ⟨by rw [hx0, h48]; rfl, ?_⟩
          have : s.data.toList = [48] := Decidable.byContradiction fun h => hear ⟨h48, h⟩
          rw [ByteArray.toList_eq, this]
          exact ⟨rfl, rfl⟩
        · refine .inl ?_
          rw [hx0, beq_eq_false_iff_ne]
          intro e
          exact h48 (UInt8.toNat_inj.1 (by have : (48 : UInt8).toNat = 48 := rfl; omega))
      clear hear hx0
      obtain ⟨q, hqd⟩ : ∃ q, q = D.size / 9 := ⟨_, rfl⟩
      have hsb : D.size ≤ 65536 := by have := hDs; omega
      have hq1 : (D.size : Int) / 9 = (q : Int) := by omega
      have hq2 : (D.size : Int).tdiv 9 = (q : Int) := by rw [Int.tdiv_eq_ediv_of_nonneg (by omega)]; omega
      have hqb : (q : Int) ≤ 8000 := by omega
      have hmk := run_mk (q + 1) (by omega) ((q : Int) + 1) (by omega)
      have HQ := Lib.hid hqd
      have hDL := Lib.hid (bytes_len D)
      have HZ := Lib.hid hz
      have HE := Lib.hid eW
      clear hqd hbig hz eW
      rcases hcase with h48 | ⟨h48, h48', h48''⟩
      all_goals
        go_enter Tryd.func9, Tryd.ntmps9
        go_wp2_with fail
        clear hmk hq1 hq2
        have h0 : ParR W (w.heap.size + 1) (q + 1) D.data.toList 0 (W.alloc (.cells (u32s (List.replicate (q + 1) 0)) 38)) := by
          refine ⟨_, List.length_replicate .., Dig.replicate _, ?_, (Ext.refl W).alloc _, ?_⟩
          · have := Blk.new W (List.replicate (q + 1) 0)
            rwa [HZ.out] at this
          · have : ∀ n, val (List.replicate n 0) = 0 := by
              intro n; induction n with
              | zero => rfl
              | succ n ih => rw [List.replicate_succ, val, ih]
            rw [this]; simp [dv]
        have H0 := Lib.hid h0
        clear h0
        go_loopw [6, 7, 8, 9] (fun i _ _ _ wr => ∃ k : Nat, k ≤ D.size ∧ i = .int .i64 k ∧ ParR W (w.heap.size + 1) (q + 1) D.data.toList k wr ∧ Hid (((D.data.toList.take k).all digB) = true)) (fun i _ _ _ _ => D.size - (intOf i).toNat)
        case atStart => exact ⟨0, Nat.zero_le _, rfl, H0.out, rfl⟩
        case round =>
          obtain ⟨k, hk, rfl, hR, HA⟩ := hrel
          by_cases hlt : k < D.size
          · obtain ⟨t, hct⟩ : ∃ t, t = D[k] := ⟨_, rfl⟩
            have hlk : D.data.toList[k]? = some t := by rw [hct]; exact List.getElem?_eq_getElem (by rw [hDL.out]; exact hlt)
            by_cases hdg : digB t = true
            · have hdg' := hdg
              unfold digB at hdg
              rw [Bool.and_eq_true, decide_eq_true_iff, decide_eq_true_iff] at hdg
              have b1 : ¬ ((D[k].toNat : Int) < 48) := by rw [← hct]; omega
              have b2 : ¬ ((57 : Int) < (D[k].toNat : Int)) := by rw [← hct]; omega
              obtain ⟨d, hd⟩ : ∃ d, d = t.toNat - 48 := ⟨_, rfl⟩
              have hdI : (D[k].toNat : Int) - 48 = (d : Int) := by rw [← hct]; omega
              obtain ⟨a, ha⟩ : ∃ a, a = D.size - 1 - k := ⟨_, rfl⟩
              obtain ⟨kk, hkk⟩ : ∃ kk, kk = a / 9 := ⟨_, rfl⟩
              obtain ⟨p, hp⟩ : ∃ p, p = a % 9 := ⟨_, rfl⟩
              have ht := bytes_take D k hlt
              rw [← hct] at ht
              obtain ⟨z, hzb, hzc, hzf, hkm, HST⟩ := hR.at_ (by have := HZ.out; omega) (by rw [hDL.out, HQ.out]) (by rw [hDL.out]; exact hlt) t ht (by omega) kk p (by rw [hDL.out]; omega) (by rw [hDL.out]; omega)
              have eR : Ext W wr := by obtain ⟨zs, _, _, _, h, _⟩ := hR; exact h
              have hA' : Hid ((D.data.toList.take (k + 1)).all digB = true) := by
                unfold Hid
                rw [ht, List.all_append, HA.out]
                simpa using hdg'
              obtain ⟨P, hP⟩ : ∃ P, P = 10 ^ p := ⟨_, rfl⟩
              have hPb : P ≤ 100000000 := by rw [hP]; have := Nat.pow_le_pow_right (n := 10) (by omega) (show p ≤ 8 by omega); omega
              obtain ⟨e, he⟩ : ∃ e, e = d * P := ⟨_, rfl⟩
              have heb : e ≤ 9 * 100000000 := by rw [he]; exact Nat.mul_le_mul (by omega) hPb
              have heI : (d : Int) * (P : Int) = (e : Int) := by rw [he, Int.natCast_mul]
              rw [← hd, ← hP, ← he] at hzb HST
              have hz1 : (z : Int) ≤ 999999999 := by omega
              have hze : (z : Int) + (e : Int) ≤ 999999999 := by omega
              have he1 : (e : Int) ≤ 900000000 := by omega
              have hd9 : (d : Int) ≤ 9 := by omega
              have hPI : (P : Int) ≤ 100000000 := by omega
              have haI : (D.size : Int) - 1 - (k : Int) = (a : Int) := by omega
              have hk1 : (a : Int) / 9 = (kk : Int) := by omega
              have hk2 : (a : Int).tdiv 9 = (kk : Int) := by rw [Int.tdiv_eq_ediv_of_nonneg (by omega)]; omega
              have hp1 : (a : Int) % 9 = (p : Int) := by omega
              have hp2 : (a : Int).tmod 9 = (p : Int) := by rw [Int.tmod_eq_emod_of_nonneg (by omega)]; omega
              have hp8 : p ≤ 8 := by omega
              have hab : (a : Int) ≤ 65536 := by omega
              have hkI : (kk : Int) < (q : Int) + 1 := by omega
              have hltI : (k : Int) < (D.size : Int) := by omega
              have HPE := Lib.hid hP
              have hWs := HZ.out
              have HWs := Lib.hid hWs
              rw [← hWs] at hzc hzf HST
              clear hdg hdg' hd ha hkk hp ht hR HA hct hlk hP he hzb hPb heb hWs hW eR
              go_wp2
              go_loop [8, 9] (fun pw j => ∃ i Q : Nat, i ≤ p ∧ j = .int .i64 i ∧ pw = .int .u32 Q ∧ (Q : Int) ≤ 100000000 ∧ Hid (Q = 10 ^ i)) (fun _ j => p - (intOf j).toNat)
              case atStart => exact ⟨0, 1, Nat.zero_le _, rfl, rfl, by omega, rfl⟩
              case round =>
                obtain ⟨i, Q, hi, rfl, rfl, hQb, HQi⟩ := hrel
                by_cases hip : i < p
                · have hipI : (i : Int) < (p : Int) := by omega
                  have hQ10 : Hid (((Q * 10 : Nat) : Int) ≤ 100000000) := by
                    unfold Hid
                    have e1 : Q * 10 = 10 ^ (i + 1) := by rw [HQi.out, Nat.pow_succ]
                    rw [e1]
                    have := Nat.pow_le_pow_right (n := 10) (by omega) (show i + 1 ≤ 8 by omega)
                    omega
                  go_wp2
                  go_round
                  case rel =>
                    refine ⟨i + 1, Q * 10, by omega, by go_num, by go_num, hQ10.out, ?_⟩
                    unfold Hid
                    rw [HQi.out, Nat.pow_succ]
                  case measure => simp [intOf]; omega
                · have e1 : i = p := by omega
                  subst e1
                  have e2 : Q = P := by rw [HQi.out, HPE.out]
                  subst e2
                  have hst := HST.out 1
                  have hzc' : (wr.drew).cell? ⟨W.heap.size, kk, none⟩ = some (.int .u32 (z : Int)) := hzc
                  have hzf' : (wr.drew).frozen? ⟨W.heap.size, kk, none⟩ = false := hzf
                  have hst' : ∀ V : Int, V = ((z + e : Nat) : Int) → ParR W W.heap.size (q + 1) D.data.toList (k + 1) ((wr.drew).setCell ⟨W.heap.size, kk, none⟩ (.int .u32 V)) := hst
                  have HST2 := Lib.hid hst'
                  clear hst hst' HST hzc hzf
                  have w1 : IntKind.i64.wrap (kk : Int) = (kk : Int) := IntWalk.i64_in _ (by omega)
                  have w2 : IntKind.i64.wrap ((a : Int).tdiv 9) = (kk : Int) := by rw [hk2]; exact w1
                  have w2' : IntKind.i64.wrap ((a : Int) / 9) = (kk : Int) := by rw [hk1]; exact w1
                  have w3 : IntKind.u8.wrap (d : Int) = (d : Int) := IntWalk.u8_in _ (by omega)
                  have w4 : IntKind.u8.wrap ((D[k].toNat : Int) - 48) = (d : Int) := by rw [hdI]; exact w3
                  have w5 : IntKind.u32.wrap (d : Int) = (d : Int) := IntWalk.u32_in _ (by omega)
                  have w6 : IntKind.u32.wrap (e : Int) = (e : Int) := IntWalk.u32_in _ (by omega)
                  have w7 : IntKind.u32.wrap ((d : Int) * (Q : Int)) = (e : Int) := by rw [heI]; exact w6
                  have w8 : IntKind.u32.wrap ((z : Int) + (e : Int)) = (z : Int) + (e : Int) := IntWalk.u32_in _ (by omega)
                  have w9 : 0 ≤ (kk : Int) := by omega
                  go_wp2
                  go_still_tail 17, (by kernel_rfl)
                  change wpList _ _ _ _ _ wr.drew
                  generalize wr.drew = w2 at *
                  go_wp2
                  go_roundw
                  case rel => exact ⟨k + 1, by omega, by go_num, by rw [← HWs.out]; exact HST2.out _ (by omega), hA'⟩
                  case measure => simp [intOf]; omega
            · have HB : Hid (parseOK s.data.toList = false) := by
                unfold Hid
                rw [HP.out, Bool.eq_false_iff]
                intro e
                exact hdg (List.all_eq_true.1 e t (List.mem_of_getElem? hlk))
              have hcs : ((D[k].toNat : Int) < 48) ∨ (¬ ((D[k].toNat : Int) < 48) ∧ (57 : Int) < (D[k].toNat : Int)) := by
                rw [← hct]
                unfold digB at hdg
                simp only [Bool.and_eq_true, decide_eq_true_iff] at hdg
                omega
              have eR : Ext W wr := by obtain ⟨zs, _, _, _, h, _⟩ := hR; exact h
              have hWs := HZ.out
              have r0' := eR.cell r0
              have r1' := eR.cell r1
              have f0' := eR.frozen (p := ⟨w.heap.size, 0, none⟩) (by show w.heap.size < W.heap.size; omega) f0
              have f1' := eR.frozen (p := ⟨w.heap.size, 1, none⟩) (by show w.heap.size < W.heap.size; omega) f1
              have hfin : Ext w ((wr.setCell ⟨w.heap.size, 0, none⟩ (.bool false)).setCell ⟨w.heap.size, 1, none⟩ (.slice none 0 0)) := ((HE.out.trans eR).setCell (p := ⟨w.heap.size, 0, none⟩) (Nat.le_refl _) _).setCell (p := ⟨w.heap.size, 1, none⟩) (Nat.le_refl _) _
              have HF := Lib.hid hfin
              have hltI : (k : Int) < (D.size : Int) := by omega
              clear hfin hWs hdg hct hlk hR HA r0 r1 f0 f1 hW eR
              rcases hcs with hc1 | ⟨hc1, hc2⟩
              · go_wp2
                exact bodyPost_ret (v := .tuple #[.agg #[.bool false, .slice none 0 0], .int .i64 2]) (by simp [results, Tryd.results9, go_sem, r0', r1']) rfl ⟨_, by rw [HB.out]; rfl, by rw [HB.out]; exact isInt_zero _, HF.out⟩
              · go_wp2
                exact bodyPost_ret (v := .tuple #[.agg #[.bool false, .slice none 0 0], .int .i64 2]) (by simp [results, Tryd.results9, go_sem, r0', r1']) rfl ⟨_, by rw [HB.out]; rfl, by rw [HB.out]; exact isInt_zero _, HF.out⟩
          · have e : k = D.size := by omega
            subst e
            have hall : D.data.toList.all digB = true := by have := HA.out; rwa [bytes_all] at this
            have HB : Hid (parseOK s.data.toList = true) := by unfold Hid; rw [HP.out]; exact hall
            obtain ⟨zs, h1, h2, h3, eR, h5⟩ := hR
            have HZV : Hid (val zs = dv D.data.toList) := by
              unfold Hid
              rw [h5, bytes_all, hDL.out, Nat.sub_self, Nat.pow_zero, Nat.mul_one]
            have HV : Hid (parseV s.data.toList = sgn true (val zs)) := by
              unfold Hid parseV
              rw [HN.out, HZV.out]
              exact congrArg (fun l => sgn true (dv l)) HDl.out.symm
            have hWs := HZ.out
            have hsg : Calls Tryd.prog 24 #[.bool true, .slice (some ⟨W.heap.size, 0, none⟩) (q + 1) (q + 1)] wr (Ret (fun v w' => IsInt w' v (sgn true (val zs))) wr) := by
              have := rsigned_calls wr true (some ⟨w.heap.size + 1, 0, none⟩) zs (q + 1) (by omega) (by omega) h3.cells h2
              rwa [h1, ← hWs] at this
            have HSG := Lib.hid hsg
            have r0' := eR.cell r0
            have r1' := eR.cell r1
            have f0' := eR.frozen (p := ⟨w.heap.size, 0, none⟩) (by show w.heap.size < W.heap.size; omega) f0
            have f1' := eR.frozen (p := ⟨w.heap.size, 1, none⟩) (by show w.heap.size < W.heap.size; omega) f1
            have HEE := Lib.hid (HE.out.trans eR)
            clear hsg h1 h2 h3 h5 hall HA hWs r0 r1 f0 f1 hW eR
            go_wp2_with fail
            refine HSG.out.mono ?_
            rintro e' w1 ⟨v3, rfl, hI, e3⟩
            obtain ⟨ao3, cap3, s3, n3, rfl, _⟩ := IsInt.open_ hI
            replace f0' := e3.frozen (lt_of_cell r0') f0'
            replace f1' := e3.frozen (lt_of_cell r1') f1'
            replace r0' := e3.cell r0'
            replace r1' := e3.cell r1'
            go_wp2
            obtain ⟨u, hu, hu2, hu3⟩ := fin_int hI r0' r1' (Nat.le_refl _) (HEE.out.trans e3)
            injection hu with hu
            subst hu
            exact bodyPost_ret (v := .tuple #[.agg #[.bool s3, .slice ao3 (limbs n3).length cap3], .int .i64 0]) (by simp [results, Tryd.results9, go_sem, r0', r1']) rfl ⟨_, by rw [HB.out]; rfl, by rw [HB.out, if_pos rfl, HV.out]; exact hu2, hu3⟩
    · have g0 : ((s[0].toNat : Int) == 45) = false := by
        rw [hc0, beq_eq_false_iff_ne]
        intro e
        exact hc (UInt8.toNat_inj.1 (by have : (45 : UInt8).toNat = 45 := rfl; omega))
      have hc' : (c == 45) = false := by rw [beq_eq_false_iff_ne]; exact hc
      have HDL : s.data.toList = digL s.data.toList := by
        rw [hl, (negL_cons c r).2, hc']
        rfl
      have HNN : negL s.data.toList = false := by rw [hl, (negL_cons c r).1, hc']
      clear hc hc0 hl hc'
      have HDl : Hid (s.data.toList = digL s.data.toList) := HDL
      have HN : Hid (negL s.data.toList = false) := HNN
      clear HDL HNN
      rcases Nat.eq_zero_or_pos s.size with d0 | d0
      · exfalso; omega
      have hne : s.toList.isEmpty = false := by
        rw [ByteArray.toList_eq]
        cases hh : s.data.toList with
        | nil => have := bytes_len s; rw [hh] at this; simp at this; omega
        | cons c r => rfl
      have hne2 : (!s.toList.isEmpty) = true := by rw [hne]; rfl
      have hne3 : ¬ s.toList = [] := by intro e; rw [e] at hne; cases hne
      obtain ⟨x, r', hx⟩ : ∃ x r, s.data.toList = x :: r := by
        cases hh : s.data.toList with
        | nil => have := bytes_len s; rw [hh] at this; simp at this; omega
        | cons c r => exact ⟨c, r, rfl⟩
      have hx0 : s[0] = x := by
        have : s.data.toList[0]'(by rw [hx]; simp) = x := by simp [hx]
        exact this
      have HX := Lib.hid hx
      clear hx
      by_cases hbig : 65536 < s.size
      · have g2 : (65536 : Int) < (s.size : Int) := by omega
        have HB : Hid (parseOK s.data.toList = false) := parse_early _ (.inl (by rw [bytes_len]; exact hbig))
        clear hbig hx0
        go_enter Tryd.func9, Tryd.ntmps9
        go_wp2
        exact bodyPost_ret (v := .tuple #[.agg #[.bool false, .slice none 0 0], .int .i64 2]) (by simp [results, Tryd.results9, go_sem, r0, r1]) rfl ⟨_, by rw [HB.out]; rfl, by rw [HB.out]; exact isInt_zero _, HF.out⟩
      have g2 : ¬ (65536 : Int) < (s.size : Int) := by omega
      by_cases hear : x = 48 ∧ s.data.toList ≠ [48]
      · have f48 : ((s[0].toNat : Int) == 48) = true := by rw [hx0, hear.1]; rfl
        have HB : Hid (parseOK s.data.toList = false) := parse_early _ (.inr (.inr ⟨by rw [← HDl.out, HX.out]; exact hear.1, hear.2⟩))
        have hq : (s.toList == [48]) = false := by rw [ByteArray.toList_eq, beq_eq_false_iff_ne]; exact hear.2
        have hq2 : ¬ s.toList = [48] := by rw [ByteArray.toList_eq]; exact hear.2
        clear hear hbig hx0
        go_enter Tryd.func9, Tryd.ntmps9
        go_wp2
        exact bodyPost_ret (v := .tuple #[.agg #[.bool false, .slice none 0 0], .int .i64 2]) (by simp [results, Tryd.results9, go_sem, r0, r1]) rfl ⟨_, by rw [HB.out]; rfl, by rw [HB.out]; exact isInt_zero _, HF.out⟩
      have HP : Hid (parseOK s.data.toList = s.data.toList.all digB) := by
        refine (parse_late s.data.toList (by rw [bytes_len]; omega) (by rw [← HDl.out, HX.out]; simp) ?_).trans (congrArg (fun l => List.all l digB) HDl.out.symm)
        intro e
        rw [← HDl.out, HX.out] at e
        exact Decidable.byContradiction fun h => hear ⟨e, h⟩
      have hcase : ((s[0].toNat : Int) == 48) = false ∨ (((s[0].toNat : Int) == 48) = true ∧ (s.toList == [48]) = true ∧ s.toList = [48]) := by
        by_cases h48 : x = 48
        · refine .inr ⟨by rw [hx0, h48]; rfl, ?_⟩
          have : s.data.toList = [48] := Decidable.byContradiction fun h => hear ⟨h48, h⟩
          rw [ByteArray.toList_eq, this]
          exact ⟨rfl, rfl⟩
        · refine .inl ?_
          rw [hx0, beq_eq_false_iff_ne]
          intro e
          exact h48 (UInt8.toNat_inj.1 (by have : (48 : UInt8).toNat = 48 := rfl; omega))
      clear hear hx0
      obtain ⟨q, hqd⟩ : ∃ q, q = s.size / 9 := ⟨_, rfl⟩
      have hsb : s.size ≤ 65536 := by omega
      have hq1 : (s.size : Int) / 9 = (q : Int) := by omega
      have hq2 : (s.size : Int).tdiv 9 = (q : Int) := by rw [Int.tdiv_eq_ediv_of_nonneg (by omega)]; omega
      have hqb : (q : Int) ≤ 8000 := by omega
      have hmk := run_mk (q + 1) (by omega) ((q : Int) + 1) (by omega)
      have HQ := Lib.hid hqd
      have hDL := Lib.hid (bytes_len s)
      have HZ := Lib.hid hz
      have HE := Lib.hid eW
      clear hqd hbig hz eW
      rcases hcase with h48 | ⟨h48, h48', h48''⟩
      all_goals
        go_enter Tryd.func9, Tryd.ntmps9
        go_wp2_with fail
        clear hmk hq1 hq2
        have h0 : ParR W (w.heap.size + 1) (q + 1) s.data.toList 0 (W.alloc (.cells (u32s (List.replicate (q + 1) 0)) 38)) := by
          refine ⟨_, List.length_replicate .., Dig.replicate _, ?_, (Ext.refl W).alloc _, ?_⟩
          · have := Blk.new W (List.replicate (q + 1) 0)
            rwa [HZ.out] at this
          · have : ∀ n, val (List.replicate n 0) = 0 := by
              intro n; induction n with
              | zero => rfl
              | succ n ih => rw [List.replicate_succ, val, ih]
            rw [this]; simp [dv]
        have H0 := Lib.hid h0
        clear h0
        go_loopw [6, 7, 8, 9] (fun i _ _ _ wr => ∃ k : Nat, k ≤ s.size ∧ i = .int .i64 k ∧ ParR W (w.heap.size + 1) (q + 1) s.data.toList k wr ∧ Hid (((s.data.toList.take k).all digB) = true)) (fun i _ _ _ _ => s.size - (intOf i).toNat)
        case atStart => exact ⟨0, Nat.zero_le _, rfl, H0.out, rfl⟩
        case round =>
          obtain ⟨k, hk, rfl, hR, HA⟩ := hrel
          by_cases hlt : k < s.size
          · obtain ⟨t, hct⟩ : ∃ t, t = s[k] := ⟨_, rfl⟩
            have hlk : s.data.toList[k]? = some t := by rw [hct]; exact List.getElem?_eq_getElem (by rw [hDL.out]; exact hlt)
            by_cases hdg : digB t = true
            · have hdg' := hdg
              unfold digB at hdg
              rw [Bool.and_eq_true, decide_eq_true_iff, decide_eq_true_iff] at hdg
              have b1 : ¬ ((s[k].toNat : Int) < 48) := by rw [← hct]; omega
              have b2 : ¬ ((57 : Int) < (s[k].toNat : Int)) := by rw [← hct]; omega
              obtain ⟨d, hd⟩ : ∃ d, d = t.toNat - 48 := ⟨_, rfl⟩
              have hdI : (s[k].toNat : Int) - 48 = (d : Int) := by rw [← hct]; omega
              obtain ⟨a, ha⟩ : ∃ a, a = s.size - 1 - k := ⟨_, rfl⟩
              obtain ⟨kk, hkk⟩ : ∃ kk, kk = a / 9 := ⟨_, rfl⟩
              obtain ⟨p, hp⟩ : ∃ p, p = a % 9 := ⟨_, rfl⟩
              have ht := bytes_take s k hlt
              rw [← hct] at ht
              obtain ⟨z, hzb, hzc, hzf, hkm, HST⟩ := hR.at_ (by have := HZ.out; omega) (by rw [hDL.out, HQ.out]) (by rw [hDL.out]; exact hlt) t ht (by omega) kk p (by rw [hDL.out]; omega) (by rw [hDL.out]; omega)
              have eR : Ext W wr := by obtain ⟨zs, _, _, _, h, _⟩ := hR; exact h
              have hA' : Hid ((s.data.toList.take (k + 1)).all digB = true) := by
                unfold Hid
                rw [ht, List.all_append, HA.out]
                simpa using hdg'
              obtain ⟨P, hP⟩ : ∃ P, P = 10 ^ p := ⟨_, rfl⟩
              have hPb : P ≤ 100000000 := by rw [hP]; have := Nat.pow_le_pow_right (n := 10) (by omega) (show p ≤ 8 by omega); omega
              obtain ⟨e, he⟩ : ∃ e, e = d * P := ⟨_, rfl⟩
              have heb : e ≤ 9 * 100000000 := by rw [he]; exact Nat.mul_le_mul (by omega) hPb
              have heI : (d : Int) * (P : Int) = (e : Int) := by rw [he, Int.natCast_mul]
              rw [← hd, ← hP, ← he] at hzb HST
              have hz1 : (z : Int) ≤ 999999999 := by omega
              have hze : (z : Int) + (e : Int) ≤ 999999999 := by omega
              have he1 : (e : Int) ≤ 900000000 := by omega
              have hd9 : (d : Int) ≤ 9 := by omega
              have hPI : (P : Int) ≤ 100000000 := by omega
              have haI : (s.size : Int) - 1 - (k : Int) = (a : Int) := by omega
              have hk1 : (a : Int) / 9 = (kk : Int) := by omega
              have hk2 : (a : Int).tdiv 9 = (kk : Int) := by rw [Int.tdiv_eq_ediv_of_nonneg (by omega)]; omega
              have hp1 : (a : Int) % 9 = (p : Int) := by omega
              have hp2 : (a : Int).tmod 9 = (p : Int) := by rw [Int.tmod_eq_emod_of_nonneg (by omega)]; omega
              have hp8 : p ≤ 8 := by omega
              have hab : (a : Int) ≤ 65536 := by omega
              have hkI : (kk : Int) < (q : Int) + 1 := by omega
              have hltI : (k : Int) < (s.size : Int) := by omega
              have HPE := Lib.hid hP
              have hWs := HZ.out
              have HWs := Lib.hid hWs
              rw [← hWs] at hzc hzf HST
              clear hdg hdg' hd ha hkk hp ht hR HA hct hlk hP he hzb hPb heb hWs hW eR
              go_wp2
              go_loop [8, 9] (fun pw j => ∃ i Q : Nat, i ≤ p ∧ j = .int .i64 i ∧ pw = .int .u32 Q ∧ (Q : Int) ≤ 100000000 ∧ Hid (Q = 10 ^ i)) (fun _ j => p - (intOf j).toNat)
              case atStart => exact ⟨0, 1, Nat.zero_le _, rfl, rfl, by omega, rfl⟩
              case round =>
                obtain ⟨i, Q, hi, rfl, rfl, hQb, HQi⟩ := hrel
                by_cases hip : i < p
                · have hipI : (i : Int) < (p : Int) := by omega
                  have hQ10 : Hid (((Q * 10 : Nat) : Int) ≤ 100000000) := by
                    unfold Hid
                    have e1 : Q * 10 = 10 ^ (i + 1) := by rw [HQi.out, Nat.pow_succ]
                    rw [e1]
                    have := Nat.pow_le_pow_right (n := 10) (by omega) (show i + 1 ≤ 8 by omega)
                    omega
                  go_wp2
                  go_round
                  case rel =>
                    refine ⟨i + 1, Q * 10, by omega, by go_num, by go_num, hQ10.out, ?_⟩
                    unfold Hid
                    rw [HQi.out, Nat.pow_succ]
                  case measure => simp [intOf]; omega
                · have e1 : i = p := by omega
                  subst e1
                  have e2 : Q = P := by rw [HQi.out, HPE.out]
                  subst e2
                  have hst := HST.out 1
                  have hzc' : (wr.drew).cell? ⟨W.heap.size, kk, none⟩ = some (.int .u32 (z : Int)) := hzc
                  have hzf' : (wr.drew).frozen? ⟨W.heap.size, kk, none⟩ = false := hzf
                  have hst' : ∀ V : Int, V = ((z + e : Nat) : Int) → ParR W W.heap.size (q + 1) s.data.toList (k + 1) ((wr.drew).setCell ⟨W.heap.size, kk, none⟩ (.int .u32 V)) := hst
                  have HST2 := Lib.hid hst'
                  clear hst hst' HST hzc hzf
                  have w1 : IntKind.i64.wrap (kk : Int) = (kk : Int) := IntWalk.i64_in _ (by omega)
                  have w2 : IntKind.i64.wrap ((a : Int).tdiv 9) = (kk : Int) := by rw [hk2]; exact w1
                  have w2' : IntKind.i64.wrap ((a : Int) / 9) = (kk : Int) := by rw [hk1]; exact w1
                  have w3 : IntKind.u8.wrap (d : Int) = (d : Int) := IntWalk.u8_in _ (by omega)
                  have w4 : IntKind.u8.wrap ((s[k].toNat : Int) - 48) = (d : Int) := by rw [hdI]; exact w3
                  have w5 : IntKind.u32.wrap (d : Int) = (d : Int) := IntWalk.u32_in _ (by omega)
                  have w6 : IntKind.u32.wrap (e : Int) = (e : Int) := IntWalk.u32_in _ (by omega)
                  have w7 : IntKind.u32.wrap ((d : Int) * (Q : Int)) = (e : Int) := by rw [heI]; exact w6
                  have w8 : IntKind.u32.wrap ((z : Int) + (e : Int)) = (z : Int) + (e : Int) := IntWalk.u32_in _ (by omega)
                  have w9 : 0 ≤ (kk : Int) := by omega
                  go_wp2
                  go_still_tail 17, (by kernel_rfl)
                  change wpList _ _ _ _ _ wr.drew
                  generalize wr.drew = w2 at *
                  go_wp2
                  go_roundw
                  case rel => exact ⟨k + 1, by omega, by go_num, by rw [← HWs.out]; exact HST2.out _ (by omega), hA'⟩
                  case measure => simp [intOf]; omega
            · have HB : Hid (parseOK s.data.toList = false) := by
                unfold Hid
                rw [HP.out, Bool.eq_false_iff]
                intro e
                exact hdg (List.all_eq_true.1 e t (List.mem_of_getElem? hlk))
              have hcs : ((s[k].toNat : Int) < 48) ∨ (¬ ((s[k].toNat : Int) < 48) ∧ (57 : Int) < (s[k].toNat : Int)) := by
                rw [← hct]
                unfold digB at hdg
                simp only [Bool.and_eq_true, decide_eq_true_iff] at hdg
                omega
              have eR : Ext W wr := by obtain ⟨zs, _, _, _, h, _⟩ := hR; exact h
              have hWs := HZ.out
              have r0' := eR.cell r0
              have r1' := eR.cell r1
              have f0' := eR.frozen (p := ⟨w.heap.size, 0, none⟩) (by show w.heap.size < W.heap.size; omega) f0
              have f1' := eR.frozen (p := ⟨w.heap.size, 1, none⟩) (by show w.heap.size < W.heap.size; omega) f1
              have hfin : Ext w ((wr.setCell ⟨w.heap.size, 0, none⟩ (.bool false)).setCell ⟨w.heap.size, 1, none⟩ (.slice none 0 0)) := ((HE.out.trans eR).setCell (p := ⟨w.heap.size, 0, none⟩) (Nat.le_refl _) _).setCell (p := ⟨w.heap.size, 1, none⟩) (Nat.le_refl _) _
              have HF := Lib.hid hfin
              have hltI : (k : Int) < (s.size : Int) := by omega
              clear hfin hWs hdg hct hlk hR HA r0 r1 f0 f1 hW eR
              rcases hcs with hc1 | ⟨hc1, hc2⟩
              · go_wp2
                exact bodyPost_ret (v := .tuple #[.agg #[.bool false, .slice none 0 0], .int .i64 2]) (by simp [results, Tryd.results9, go_sem, r0', r1']) rfl ⟨_, by rw [HB.out]; rfl, by rw [HB.out]; exact isInt_zero _, HF.out⟩
              · go_wp2
                exact bodyPost_ret (v := .tuple #[.agg #[.bool false, .slice none 0 0], .int .i64 2]) (by simp [results, Tryd.results9, go_sem, r0', r1']) rfl ⟨_, by rw [HB.out]; rfl, by rw [HB.out]; exact isInt_zero _, HF.out⟩
          · have e : k = s.size := by omega
            subst e
            have hall : s.data.toList.all digB = true := by have := HA.out; rwa [bytes_all] at this
            have HB : Hid (parseOK s.data.toList = true) := by unfold Hid; rw [HP.out]; exact hall
            obtain ⟨zs, h1, h2, h3, eR, h5⟩ := hR
            have HZV : Hid (val zs = dv s.data.toList) := by
              unfold Hid
              rw [h5, bytes_all, hDL.out, Nat.sub_self, Nat.pow_zero, Nat.mul_one]
            have HV : Hid (parseV s.data.toList = sgn false (val zs)) := by
              unfold Hid parseV
              rw [HN.out, HZV.out]
              exact congrArg (fun l => sgn false (dv l)) HDl.out.symm
            have hWs := HZ.out
            have hsg : Calls Tryd.prog 24 #[.bool false, .slice (some ⟨W.heap.size, 0, none⟩) (q + 1) (q + 1)] wr (Ret (fun v w' => IsInt w' v (sgn false (val zs))) wr) := by
              have := rsigned_calls wr false (some ⟨w.heap.size + 1, 0, none⟩) zs (q + 1) (by omega) (by omega) h3.cells h2
              rwa [h1, ← hWs] at this
            have HSG := Lib.hid hsg
            have r0' := eR.cell r0
            have r1' := eR.cell r1
            have f0' := eR.frozen (p := ⟨w.heap.size, 0, none⟩) (by show w.heap.size < W.heap.size; omega) f0
            have f1' := eR.frozen (p := ⟨w.heap.size, 1, none⟩) (by show w.heap.size < W.heap.size; omega) f1
            have HEE := Lib.hid (HE.out.trans eR)
            clear hsg h1 h2 h3 h5 hall HA hWs r0 r1 f0 f1 hW eR
            go_wp2_with fail
            refine HSG.out.mono ?_
            rintro e' w1 ⟨v3, rfl, hI, e3⟩
            obtain ⟨ao3, cap3, s3, n3, rfl, _⟩ := IsInt.open_ hI
            replace f0' := e3.frozen (lt_of_cell r0') f0'
            replace f1' := e3.frozen (lt_of_cell r1') f1'
            replace r0' := e3.cell r0'
            replace r1' := e3.cell r1'
            go_wp2
            obtain ⟨u, hu, hu2, hu3⟩ := fin_int hI r0' r1' (Nat.le_refl _) (HEE.out.trans e3)
            injection hu with hu
            subst hu
            exact bodyPost_ret (v := .tuple #[.agg #[.bool s3, .slice ao3 (limbs n3).length cap3], .int .i64 0]) (by simp [results, Tryd.results9, go_sem, r0', r1']) rfl ⟨_, by rw [HB.out]; rfl, by rw [HB.out, if_pos rfl, HV.out]; exact hu2, hu3⟩
end Go.Proofs.YtmofkmdacfdejaaDoor
end

/- ---- Itoa ---- -/
section
/-
  The decimal text of an integer is read as that integer.
-/
set_option maxRecDepth 100000
namespace Go.Proofs.YtmofkmdacfdejaaDoor
open Go.RowKit

theorem dec_spec : ∀ (k n : Nat), n < 10 ^ k → (Lib.decDigits n).all digB = true ∧ dv (Lib.decDigits n) = n ∧ ((Lib.decDigits n).headD 0 = 48 → n = 0) ∧ (Lib.decDigits n).headD 0 ≠ 45 ∧ Lib.decDigits n ≠ [] := by
  have base : ∀ n, n < 10 → (Lib.decDigits n).all digB = true ∧ dv (Lib.decDigits n) = n ∧ ((Lib.decDigits n).headD 0 = 48 → n = 0) ∧ (Lib.decDigits n).headD 0 ≠ 45 ∧ Lib.decDigits n ≠ [] := by
    intro n h
    rw [Lib.decDigits_one h]
    match n, h with
    | 0, _ | 1, _ | 2, _ | 3, _ | 4, _ | 5, _ | 6, _ | 7, _ | 8, _ | 9, _ => exact ⟨by decide, by decide, by decide, by decide, by decide⟩
    | n + 10, h => omega
  intro k
  induction k with
  | zero => intro n h; exact base n (by simp at h; omega)
  | succ k ih =>
    intro n h
    by_cases h10 : n < 10
    · exact base n h10
    · obtain ⟨i1, i2, i3, i4, i5⟩ := ih (n / 10) (by rw [Nat.pow_succ] at h; omega)
      have hd : (UInt8.ofNat (48 + n % 10)).toNat = 48 + n % 10 := by rw [UInt8.toNat_ofNat']; omega
      rw [Lib.decDigits, dif_neg h10]
      cases hl : Lib.decDigits (n / 10) with
      | nil => exact absurd hl i5
      | cons c r =>
        rw [hl] at i1 i2 i3 i4
        refine ⟨?_, ?_, ?_, ?_, by simp⟩
        · rw [List.all_append, i1]
          simp only [List.all_cons, List.all_nil, Bool.and_true, Bool.true_and]
          unfold digB
          rw [hd, decide_eq_true (by omega), decide_eq_true (by omega)]
          rfl
        · rw [dv_snoc, i2, hd]; omega
        · intro e
          have := i3 e
          omega
        · exact i4
theorem parse_itoa (z : Int) (h : (Lib.itoa z).length ≤ 65536) : parseOK (Lib.itoa z) = true ∧ parseV (Lib.itoa z) = z := by
  have key : ∀ n : Nat, (Lib.decDigits n).all digB = true ∧ dv (Lib.decDigits n) = n ∧ ((Lib.decDigits n).headD 0 = 48 → n = 0) ∧ (Lib.decDigits n).headD 0 ≠ 45 ∧ Lib.decDigits n ≠ [] := fun n => dec_spec (n + 1) n (by
    have := Nat.lt_pow_self (n := n) (show 1 < 10 by omega)
    rw [Nat.pow_succ]; omega)
  by_cases hz : z < 0
  · obtain ⟨n, rfl⟩ : ∃ n : Nat, z = -(n : Int) := ⟨z.natAbs, by omega⟩
    have hn : 0 < n := by omega
    obtain ⟨k1, k2, k3, k4, k5⟩ := key n
    have e := Lib.itoa_neg n hn
    rw [e] at h ⊢
    obtain ⟨e1, e2⟩ := negL_cons 45 (Lib.decDigits n)
    have e1' : negL (45 :: Lib.decDigits n) = true := e1
    have e2' : digL (45 :: Lib.decDigits n) = Lib.decDigits n := e2
    refine ⟨?_, ?_⟩
    · rw [parse_late _ h (by rw [e2']; exact k5) (by rw [e2']; intro x; have := k3 x; omega), e2']
      exact k1
    · unfold parseV
      rw [e1', e2', k2]; rfl
  · obtain ⟨n, rfl⟩ : ∃ n : Nat, z = (n : Int) := ⟨z.natAbs, by omega⟩
    obtain ⟨k1, k2, k3, k4, k5⟩ := key n
    have e := Lib.itoa_nonneg n
    rw [e] at h ⊢
    cases hl : Lib.decDigits n with
    | nil => exact absurd hl k5
    | cons c r =>
      rw [hl] at h k1 k2 k3 k4
      have hc : (c == 45) = false := by rw [beq_eq_false_iff_ne]; exact k4
      obtain ⟨e1, e2⟩ := negL_cons c r
      rw [hc] at e1 e2
      have e2' : digL (c :: r) = c :: r := e2
      refine ⟨?_, ?_⟩
      · rw [parse_late _ h (by rw [e2']; simp) (by
          rw [e2']
          intro x
          have h0 := k3 x
          subst h0
          rw [← hl]
          exact Lib.decDigits_one (by omega)), e2']
        exact k1
      · unfold parseV
        rw [e1, e2', k2]; rfl
theorem nDigits_leT : ∀ (k u : Nat), u < 10 ^ (k + 1) → Lib.nDigits u ≤ k + 1
  | 0, u, h => by rw [Lib.nDigits_small (by simpa using h)]; exact Nat.le_refl _
  | k + 1, u, h => by
    by_cases h1 : u < 10
    · rw [Lib.nDigits_small h1]; omega
    · rw [Lib.nDigits_big h1]
      have := nDigits_leT k (u / 10) (by rw [Nat.pow_succ] at h; omega)
      omega
theorem itoa_lenT {l : Nat} {z : Int} (h : Lim l z) : (Lib.itoa z).length ≤ 9 * l + 2 := by
  have h1 := lt_of_limbs_len h
  have h2 : (Lib.decDigits z.natAbs).length ≤ 9 * l + 1 := by
    rw [Lib.decDigits_length]
    refine nDigits_leT (9 * l) _ (Nat.lt_of_lt_of_le h1 ?_)
    rw [show (1000000000 : Nat) = 10 ^ 9 from rfl, ← Nat.pow_mul]
    exact Nat.pow_le_pow_right (by omega) (by omega)
  unfold Lib.itoa
  split
  · simp only [List.length_cons]; omega
  · rename_i hz
    rw [show z.toNat = z.natAbs by omega]; omega
end Go.Proofs.YtmofkmdacfdejaaDoor
end

/- ---- From ---- -/
section
/-
  FromInt64 and Int64, of the program and of the reference.
-/
set_option maxRecDepth 100000
namespace Go.Proofs.YtmofkmdacfdejaaDoor
open Go.RowKit

theorem isLimbs_of_owns {w : World} {base : Nat} {v : Value} {n : Nat} (h : w.ownsRow base 38 1 v (limbs n).length ((limbs n).map fun x => Value.int .u32 ((x : Nat) : Int))) : IsLimbs n v w := by
  have hh := h
  rcases hh.2 with ⟨rfl, h0⟩ | ⟨g, cap, cur, rfl, _, _, hnc, hcm, _, _⟩
  · have e : limbs n = [] := List.eq_nil_of_length_eq_zero h0
    exact ⟨none, 0, by rw [e]; rfl, by rw [e]; simp, by omega, by rw [e]; exact Cells.nil _ _⟩
  · exact ⟨_, cap, rfl, hnc, by unfold maxLen at hcm; omega, (Blk.of_owns h).cells⟩

set_option maxRecDepth 100000 in
set_option maxHeartbeats 800000 in
theorem rlimbs_calls (w : World) (n : Nat) (hn : n ≤ 18446744073709551615) :
    Calls Tryd.prog 49 #[.int .u64 (n : Int)] w (Ret (IsLimbs n) w) := by
  obtain ⟨i0, hi, hz0, hz1, hz2⟩ := info_parts info_u32
  have hlen : (limbs n).length ≤ 3 := limbs_len_le (by omega)
  have HLEN := Lib.hid hlen
  have hnI : (n : Int) ≤ 18446744073709551615 := by omega
  clear hn hlen
  go_enter Tryd.func49, Tryd.ntmps49
  go_wp2
  go_loopw [0, 3] (fun m v wr => ∃ (k : Nat) (xs : List Nat), m = .int .u64 k ∧ (k : Int) ≤ 18446744073709551615 ∧ Ext w wr ∧ wr.ownsRow w.heap.size 38 1 v xs.length (xs.map fun x => Value.int .u32 ((x : Nat) : Int)) ∧ Hid (limbs n = xs ++ limbs k)) (fun m _ _ => (intOf m).toNat)
  case atStart => exact ⟨n, [], rfl, hnI, Ext.refl w, World.ownsRow_nil _ _ _ _, rfl⟩
  case round =>
    obtain ⟨k, xs, rfl, hk, hE, hown, HX⟩ := hrel
    rcases Nat.eq_zero_or_pos k with h0 | h0
    · subst h0
      have hl : limbs n = xs := by rw [HX.out, limbs_zero, List.append_nil]
      rw [← hl] at hown
      have HI := Lib.hid (isLimbs_of_owns hown)
      clear hl hown
      go_wp2
      go_ret
      exact ⟨_, rfl, HI.out, hE⟩
    · have hkI : (0 : Int) < (k : Int) := by omega
      have HS : Hid (limbs n = (xs ++ [k % 1000000000]) ++ limbs (k / 1000000000)) := by
        unfold Hid; rw [HX.out, limbs_step h0, List.append_assoc]; rfl
      have hxl : xs.length ≤ 3 := by have := HLEN.out; rw [HX.out, List.length_append] at this; omega
      have HN := Lib.hid h0
      have hsz := hE.size
      clear h0
      go_wp2_with (at_builtin; refine wpList_append_own _ rfl _ _ 22 rfl w.heap.size 38 i0 (.int .u32 0) 1 4 Tryd.underlying22 hi hz0 hz1 hz2 rfl (by decide) _ xs.length _ rfl (hown.alloc _) ⟨wr.heap.size, 0, none⟩ 1 1 [.int .u32 ((k : Int) % 1000000000)] rfl rfl ?c1 ?c2 ?c3 ?c4 ?c5 ?_)
      case c1 =>
        intro j u hj
        match j, hj with
        | 0, hj => simp at hj; subst hj; simp [Addr.add]
      case c2 => intro u hu; simp at hu; subst hu; rfl
      case c3 => unfold maxLen; omega
      case c4 => omega
      case c5 => simp; omega
      intro v' w1 hown1 hgrow _
      have hr := hown.lt
      have hE1 : Ext w w1 := Below.grown (hE.alloc _) hgrow (by simp; omega) (fun g hg => (hr g hg).1)
      have hown2 : w1.ownsRow w.heap.size 38 1 v' (xs ++ [k % 1000000000]).length ((xs ++ [k % 1000000000]).map fun x => Value.int .u32 ((x : Nat) : Int)) := by
        rw [List.length_append, List.map_append]
        exact hown1
      clear hown1 hgrow hown hr
      go_wp2
      go_roundw
      case rel => exact ⟨k / 1000000000, xs ++ [k % 1000000000], vint (by omega), by omega, hE1, hown2, HS.out⟩
      case measure => have := HN.out; simp [intOf]; omega

theorem wrap_neg (n : Int) (h1 : -9223372036854775808 ≤ n) (h2 : n < 0) : IntKind.u64.wrap (-IntKind.u64.wrap n) = ((n.natAbs : Nat) : Int) := by
  simp only [IntKind.wrap_u64]; omega
theorem sgn_natAbs_neg {n : Int} (h : n < 0) : sgn true n.natAbs = n := by simp [sgn]; omega
theorem sgn_natAbs_pos {n : Int} (h : 0 ≤ n) : sgn false n.natAbs = n := by simp [sgn]; omega

set_option maxHeartbeats 400000 in
theorem fromInt64_calls (w : World) (n : Int) (h1 : -9223372036854775808 ≤ n) (h2 : n ≤ 9223372036854775807) :
    Calls Tryd.prog 13 #[.int .i64 n] w (Ret (fun v w' => IsInt w' v n) w) := by
  obtain ⟨W, hW, eW, hz, r0, r1, f0, f1⟩ := res_new w 24
  clear hz
  by_cases hn : n < 0
  · have HE := Lib.hid (sgn_natAbs_neg hn)
    have HW := Lib.hid (wrap_neg n h1 hn)
    go_enter Tryd.func13, Tryd.ntmps13
    go_wp2_with fail
    clear hW
    rw [HW.out]
    refine (limbsOf_calls _ n.natAbs (by omega)).mono ?_
    rintro e w1 ⟨v, rfl, ⟨ao, cap, rfl, k1, k2, k3⟩, e1⟩
    go_wp2_with fail
    refine (signedL_calls _ _ _ _ _ k1 k2 k3).mono ?_
    rintro e w2 ⟨v, rfl, hI, e2⟩
    rw [HE.out] at hI
    obtain ⟨ao2, cap2, s2, n2, rfl, _⟩ := hI.open_
    have eA := e1.trans e2
    have c02 := eA.cell r0
    have c12 := eA.cell r1
    have f02 := eA.frozen (lt_of_cell r0) f0
    have f12 := eA.frozen (lt_of_cell r1) f1
    clear r0 r1 f0 f1
    go_wp2
    exact bodyPost_ret (v := .agg #[.bool s2, .slice ao2 (limbs n2).length cap2]) (by simp [results, Tryd.results13, go_sem, c02, c12]) rfl (fin_int hI c02 c12 (Nat.le_refl _) (eW.trans eA))
  · have HE := Lib.hid (sgn_natAbs_pos (n := n) (by omega))
    have HW : Hid (n = ((n.natAbs : Nat) : Int)) := by unfold Hid; omega
    go_enter Tryd.func13, Tryd.ntmps13
    go_wp2_with fail
    clear hW
    rw [show Value.int .u64 n = Value.int .u64 ((n.natAbs : Nat) : Int) from vint HW.out]
    refine (limbsOf_calls _ n.natAbs (by omega)).mono ?_
    rintro e w1 ⟨v, rfl, ⟨ao, cap, rfl, k1, k2, k3⟩, e1⟩
    go_wp2_with fail
    refine (signedL_calls _ _ _ _ _ k1 k2 k3).mono ?_
    rintro e w2 ⟨v, rfl, hI, e2⟩
    rw [HE.out] at hI
    obtain ⟨ao2, cap2, s2, n2, rfl, _⟩ := hI.open_
    have eA := e1.trans e2
    have c02 := eA.cell r0
    have c12 := eA.cell r1
    have f02 := eA.frozen (lt_of_cell r0) f0
    have f12 := eA.frozen (lt_of_cell r1) f1
    clear r0 r1 f0 f1
    go_wp2
    exact bodyPost_ret (v := .agg #[.bool s2, .slice ao2 (limbs n2).length cap2]) (by simp [results, Tryd.results13, go_sem, c02, c12]) rfl (fin_int hI c02 c12 (Nat.le_refl _) (eW.trans eA))

set_option maxHeartbeats 400000 in
theorem rfromInt64_calls (w : World) (n : Int) (h1 : -9223372036854775808 ≤ n) (h2 : n ≤ 9223372036854775807) :
    Calls Tryd.prog 32 #[.int .i64 n] w (Ret (fun v w' => IsInt w' v n) w) := by
  obtain ⟨W, hW, eW, hz, r0, r1, f0, f1⟩ := res_new w 24
  clear hz
  by_cases hn : n < 0
  · have HE := Lib.hid (sgn_natAbs_neg hn)
    have HW := Lib.hid (wrap_neg n h1 hn)
    go_enter Tryd.func32, Tryd.ntmps32
    go_wp2_with fail
    clear hW
    rw [HW.out]
    refine (rlimbs_calls _ n.natAbs (by omega)).mono ?_
    rintro e w1 ⟨v, rfl, ⟨ao, cap, rfl, k1, k2, k3⟩, e1⟩
    go_wp2_with fail
    refine (rsignedL_calls _ _ _ _ _ k1 k2 k3).mono ?_
    rintro e w2 ⟨v, rfl, hI, e2⟩
    rw [HE.out] at hI
    obtain ⟨ao2, cap2, s2, n2, rfl, _⟩ := hI.open_
    have eA := e1.trans e2
    have c02 := eA.cell r0
    have c12 := eA.cell r1
    have f02 := eA.frozen (lt_of_cell r0) f0
    have f12 := eA.frozen (lt_of_cell r1) f1
    clear r0 r1 f0 f1
    go_wp2
    exact bodyPost_ret (v := .agg #[.bool s2, .slice ao2 (limbs n2).length cap2]) (by simp [results, Tryd.results32, go_sem, c02, c12]) rfl (fin_int hI c02 c12 (Nat.le_refl _) (eW.trans eA))
  · have HE := Lib.hid (sgn_natAbs_pos (n := n) (by omega))
    have HW : Hid (n = ((n.natAbs : Nat) : Int)) := by unfold Hid; omega
    go_enter Tryd.func32, Tryd.ntmps32
    go_wp2_with fail
    clear hW
    rw [show Value.int .u64 n = Value.int .u64 ((n.natAbs : Nat) : Int) from vint HW.out]
    refine (rlimbs_calls _ n.natAbs (by omega)).mono ?_
    rintro e w1 ⟨v, rfl, ⟨ao, cap, rfl, k1, k2, k3⟩, e1⟩
    go_wp2_with fail
    refine (rsignedL_calls _ _ _ _ _ k1 k2 k3).mono ?_
    rintro e w2 ⟨v, rfl, hI, e2⟩
    rw [HE.out] at hI
    obtain ⟨ao2, cap2, s2, n2, rfl, _⟩ := hI.open_
    have eA := e1.trans e2
    have c02 := eA.cell r0
    have c12 := eA.cell r1
    have f02 := eA.frozen (lt_of_cell r0) f0
    have f12 := eA.frozen (lt_of_cell r1) f1
    clear r0 r1 f0 f1
    go_wp2
    exact bodyPost_ret (v := .agg #[.bool s2, .slice ao2 (limbs n2).length cap2]) (by simp [results, Tryd.results32, go_sem, c02, c12]) rfl (fin_int hI c02 c12 (Nat.le_refl _) (eW.trans eA))


/-- What Int64 returns. -/
def i64v (z : Int) : Int := if -9223372036854775808 ≤ z ∧ z ≤ 9223372036854775807 then z else 0
def i64ok (z : Int) : Bool := decide (-9223372036854775808 ≤ z ∧ z ≤ 9223372036854775807)
theorem i64_in {z : Int} (h1 : -9223372036854775808 ≤ z) (h2 : z ≤ 9223372036854775807) : i64v z = z ∧ i64ok z = true := ⟨if_pos ⟨h1, h2⟩, decide_eq_true ⟨h1, h2⟩⟩
theorem i64_out {z : Int} (h : z < -9223372036854775808 ∨ 9223372036854775807 < z) : i64v z = 0 ∧ i64ok z = false := ⟨if_neg (by omega), decide_eq_false (by omega)⟩

end Go.Proofs.YtmofkmdacfdejaaDoor
end

/- ---- Div ---- -/
section
/-
  DivMod, over a hypothesis on how the limbs are divided.
-/
set_option maxRecDepth 100000
namespace Go.Proofs.YtmofkmdacfdejaaDoor
open Go.RowKit

theorem u64_num {x : Int} (h0 : 0 ≤ x) (h1 : x ≤ 18446744073709551615) : IntKind.u64.wrap x = x := by rw [IntKind.wrap_u64]; omega
theorem wrap_quo (m n q : Nat) (hm : m ≤ 18446744073709551615) (hq : q = m / n) : IntKind.u64.wrap ((m : Int) / (n : Int)) = (q : Int) := by
  rw [← Int.natCast_ediv, ← hq]
  exact u64_num (Int.natCast_nonneg _) (by have := Nat.div_le_self m n; omega)
theorem rem_nat (m n r : Nat) (hr : r = m % n) : (m : Int) % (n : Int) = (r : Int) ∧ (m : Int).tmod (n : Int) = (r : Int) := by
  rw [Int.tmod_eq_emod_of_nonneg (Int.natCast_nonneg _), ← Int.natCast_emod, hr]; simp

/-- Two results with these properties. -/
def Ret2 (Q1 Q2 : Value → World → Prop) (w : World) (e : Ending) (w' : World) : Prop := ∃ v1 v2, e = .returned (.tuple #[v1, v2]) ∧ Q1 v1 w' ∧ Q2 v2 w' ∧ Ext w w'
/-- The limbs of these two numbers are divided rightly. -/
def DivOK (m n : Nat) : Prop := ∀ (w : World) (ax ay : Option Addr) (cx cy : Nat), (limbs m).length ≤ cx → (limbs n).length ≤ cy → cx ≤ 9223372036854775807 → cy ≤ 9223372036854775807 → Cells w ax (limbs m) → Cells w ay (limbs n) →
  Calls Tryd.prog 27 #[.slice ax (limbs m).length cx, .slice ay (limbs n).length cy] w (Ret2 (IsLimbs (m / n)) (IsLimbs (m % n)) w)

set_option maxRecDepth 100000 in
set_option maxHeartbeats 800000 in
theorem divOK_less (m n : Nat) (lx : (limbs m).length ≤ 1048576) (h : (limbs m).length < (limbs n).length) : DivOK m n := by
  intro w ax ay cx cy kx ky bx by_ hx hy
  have hlt := lt_of_len h
  have HQ := Lib.hid (Nat.div_eq_of_lt hlt)
  have HR := Lib.hid (Nat.mod_eq_of_lt hlt)
  clear hlt
  go_enter Tryd.func27, Tryd.ntmps27
  go_wp2_with fail
  refine (clone_calls w ax (limbs m) cx (by omega) hx kx).mono ?_
  rintro e w1 ⟨az, cz, rfl, h1, h2, hE, hz⟩
  have hc := Cloned.cells hz
  clear hz
  go_wp2
  go_ret2
  exact ⟨_, _, rfl, by rw [HQ.out]; exact ⟨none, 0, rfl, by simp [limbs_zero], by omega, Cells.nil _ _⟩, by rw [HR.out]; exact ⟨az, cz, rfl, h1, h2, hc⟩, hE⟩

set_option maxRecDepth 100000 in
set_option maxHeartbeats 800000 in
theorem divOK_small (m n : Nat) (h : ¬ (limbs m).length < (limbs n).length) (h2 : (limbs m).length ≤ 2) (hn : n ≠ 0) : DivOK m n := by
  intro w ax ay cx cy kx ky bx by_ hx hy
  have bm : m < 1000000000000000000 := by have := lt_of_limbs_len h2; omega
  have bn : n < 1000000000000000000 := by have := lt_of_limbs_len (n := n) (k := 2) (by omega); omega
  have hvx := valueOf_calls w ax (limbs m) cx kx bx hx (by rw [val_limbs]; omega)
  have hvy := valueOf_calls w ay (limbs n) cy ky by_ hy (by rw [val_limbs]; omega)
  rw [val_limbs] at hvx hvy
  have HX := Lib.hid hvx
  have HY := Lib.hid hvy
  have hq1 : m / n ≤ m := Nat.div_le_self _ _
  have hr1 : m % n < n := Nat.mod_lt _ (by omega)
  obtain ⟨q, hq⟩ : ∃ q, q = m / n := ⟨_, rfl⟩
  obtain ⟨r, hr⟩ : ∃ r, r = m % n := ⟨_, rfl⟩
  have HF := Lib.hid (And.intro (wrap_quo m n q (by omega) hq) (rem_nat m n r hr))
  rw [← hq, ← hr]
  rw [← hq] at hq1
  rw [← hr] at hr1
  have HA := Lib.hid (fun W => limbsOf_calls W q (by omega))
  have HC := Lib.hid (fun W => limbsOf_calls W r (by omega))
  have l1 : ((limbs n).length : Int) ≤ ((limbs m).length : Int) := by omega
  have l2 : decide (((limbs m).length : Int) ≤ 2) = true := decide_eq_true (by omega)
  clear hvx hvy hq hr hq1 hr1 bm bn h h2 kx ky bx by_
  go_enter Tryd.func27, Tryd.ntmps27
  go_wp2_with fail
  refine HX.out.mono ?_
  rintro e w' ⟨rfl, rfl⟩
  go_wp2_with fail
  refine HY.out.mono ?_
  rintro e w' ⟨rfl, rfl⟩
  obtain ⟨b1, b2, b3⟩ := HF.out
  clear l1 l2
  go_wp2_with fail
  go_region_held3 (fun _ => True) (exact True.intro) ((first
    | (go_at_call 30; ((with_reducible refine (HA.out _).mono ?_)); rintro e w1 ⟨v1, rfl, hv1, e1⟩)
    | (go_at_call 30; ((with_reducible refine (HC.out _).mono ?_)); rintro e w2 ⟨v2, rfl, hv2, e2⟩)))
  go_wp2
  go_ret2
  exact ⟨v1, v2, rfl, hv1.ext e2, hv2, e1.of_drew.trans e2⟩

/-- Quotient and remainder, rounded down, and how great they are. -/
def DM (z1 z2 q r : Int) : Prop := z1 = q * z2 + r ∧ (0 ≤ r ∧ r < z2 ∨ z2 < r ∧ r ≤ 0) ∧ q.natAbs ≤ z1.natAbs ∧ r.natAbs < z2.natAbs
theorem xor_xor (s s' : Bool) : (!((!(s == s')) == s')) = s := by cases s <;> cases s' <;> rfl
theorem sgn_range (s : Bool) (r n : Nat) (h : r < n) : 0 ≤ sgn s r ∧ sgn s r < sgn s n ∨ sgn s n < sgn s r ∧ sgn s r ≤ 0 := by
  cases s
  · left; simp [sgn]; omega
  · right; simp [sgn]; omega
theorem dm_same (s s' : Bool) (m n : Nat) (hn : 0 < n) (h : s = s' ∨ m % n = 0) : DM (sgn s m) (sgn s' n) (sgn (!(s == s')) (m / n)) (sgn s' (m % n)) := by
  have e := Nat.div_add_mod m n
  have hr := Nat.mod_lt m hn
  have hq := Nat.div_le_self m n
  rw [Nat.mul_comm] at e
  refine ⟨?_, sgn_range s' _ _ hr, by rw [natAbs_sgn, natAbs_sgn]; exact hq, by rw [natAbs_sgn, natAbs_sgn]; exact hr⟩
  rw [sgn_mul, xor_xor]
  rcases h with rfl | h0
  · rw [sgn_add_same, e]
  · rw [h0] at e ⊢
    rw [sgn_zero, Int.add_zero]; rw [Nat.add_zero] at e; rw [e]
theorem dm_other (s s' : Bool) (m n : Nat) (hn : 0 < n) (h : s ≠ s') (hr0 : m % n ≠ 0) : DM (sgn s m) (sgn s' n) (sgn (!(s == s')) (m / n + 1)) (sgn s' (n - m % n)) := by
  have e := Nat.div_add_mod m n
  have hr := Nat.mod_lt m hn
  have hq : m / n + 1 ≤ m := by
    have h2 : 2 ≤ n := by
      rcases Nat.lt_or_ge n 2 with h1 | h1
      · obtain rfl : n = 1 := by omega
        rw [Nat.mod_one] at hr0; omega
      · exact h1
    have hm : 0 < m := by
      rcases Nat.eq_zero_or_pos m with h1 | h1
      · subst h1; simp at hr0
      · exact h1
    exact Nat.div_lt_self hm h2
  rw [Nat.mul_comm] at e
  refine ⟨?_, sgn_range s' _ _ (by omega), by rw [natAbs_sgn, natAbs_sgn]; exact hq, by rw [natAbs_sgn, natAbs_sgn]; omega⟩
  rw [sgn_mul, xor_xor]
  have hle : n - m % n ≤ (m / n + 1) * n := by rw [Nat.add_mul]; omega
  rw [sgn_add_ge _ _ _ _ h hle]
  congr 1
  rw [Nat.add_mul]; omega

/-- Two structs boxed, and two results that are integers. -/
theorem boxes2rr (w : World) (u0 u1 v0 v1 : Value) (t : TypeId) : ∃ W, ((((w.alloc (.cells #[u0, u1] t)).alloc (.cells #[v0, v1] t)).alloc (.cells #[.bool false, .slice none 0 0] t)).alloc (.cells #[.bool false, .slice none 0 0] t)) = W ∧ Ext w W ∧
    W.cell? ⟨w.heap.size, 0, none⟩ = some u0 ∧ W.cell? ⟨w.heap.size, 1, none⟩ = some u1 ∧ W.cell? ⟨w.heap.size + 1, 0, none⟩ = some v0 ∧ W.cell? ⟨w.heap.size + 1, 1, none⟩ = some v1 ∧
    (W.cell? ⟨w.heap.size + 2, 0, none⟩ = some (.bool false) ∧ W.cell? ⟨w.heap.size + 2, 1, none⟩ = some (.slice none 0 0) ∧ W.frozen? ⟨w.heap.size + 2, 0, none⟩ = false ∧ W.frozen? ⟨w.heap.size + 2, 1, none⟩ = false) ∧
    (W.cell? ⟨w.heap.size + 3, 0, none⟩ = some (.bool false) ∧ W.cell? ⟨w.heap.size + 3, 1, none⟩ = some (.slice none 0 0) ∧ W.frozen? ⟨w.heap.size + 3, 0, none⟩ = false ∧ W.frozen? ⟨w.heap.size + 3, 1, none⟩ = false) := by
  obtain ⟨V, hV, eV, c0, c1, d0, d1, r0, r1, f0, f1⟩ := boxes2r w u0 u1 v0 v1 t
  obtain ⟨W, hW, eW, _, a0, a1, a2, a3⟩ := res_new V t
  have hz : V.heap.size = w.heap.size + 3 := by rw [← hV]; simp
  rw [hz] at a0 a1 a2 a3
  exact ⟨W, by rw [hV, hW], eV.trans eW, eW.cell c0, eW.cell c1, eW.cell d0, eW.cell d1, ⟨eW.cell r0, eW.cell r1, eW.frozen (lt_of_cell r0) f0, eW.frozen (lt_of_cell r1) f1⟩, a0, a1, a2, a3⟩

theorem isInt_raw {w : World} {ao : Option Addr} {cap n : Nat} {s : Bool} (h1 : (limbs n).length ≤ cap) (h2 : cap ≤ 9223372036854775807) (h3 : Cells w ao (limbs n)) (h4 : s = true → 0 < n) :
    Raw w (.agg #[.bool s, .slice ao (limbs n).length cap]) s (limbs n) ∧ okB s (limbs n) = true := by
  refine ⟨⟨ao, cap, rfl, h1, h2, h3⟩, ?_⟩
  rcases Nat.eq_zero_or_pos n with h0 | h0
  · subst h0
    rw [limbs_zero, okB_nil]
    cases s
    · rfl
    · exact absurd (h4 rfl) (by omega)
  · rw [okB_dig (dig_limbs n) (limbs_pos h0)]
    have := limbs_last n (by intro e; have := limbs_eq_nil.1 e; omega)
    simpa using this

theorem IsInt.store2 {w2 : World} {v : Value} {z : Int} {r : Nat} {b0 : Bool} {a0 : Option Addr} {l0 k0 : Nat} (h : IsInt w2 v z)
    (c0 : w2.cell? ⟨r, 0, none⟩ = some (.bool b0)) (c1 : w2.cell? ⟨r, 1, none⟩ = some (.slice a0 l0 k0)) (u0 u1 : Value) : IsInt ((w2.setCell ⟨r, 0, none⟩ u0).setCell ⟨r, 1, none⟩ u1) v z := by
  obtain ⟨ao', cap', hv, h1, h2, h3⟩ := h
  have k1 : (w2.setCell ⟨r, 0, none⟩ u0).cell? ⟨r, 1, none⟩ = some (.slice a0 l0 k0) := by
    rw [World.cell?_setCell_other _ _ _ _ (by simp)]; exact c1
  exact ⟨ao', cap', hv, h1, h2, (h3.store c0 (by simp) _).store k1 (by simp) _⟩
/-- What DivMod returns for a divisor that is not 0. -/
def RetDM (z1 z2 : Int) (w : World) (e : Ending) (w' : World) : Prop :=
  ∃ v1 v2 q r, e = .returned (.tuple #[v1, v2, .int .i64 0]) ∧ IsInt w' v1 q ∧ IsInt w' v2 r ∧ DM z1 z2 q r ∧ Ext w w'

/-- Both results have been stored and are read again. -/
theorem fin_dm {w w2 : World} {v4 v5 u0 u1 u2 u3 : Value} {b0 b1 : Bool} {a0 a1 : Option Addr} {l0 k0 l1 k1 : Nat} {z1 z2 q r : Int} {g : Nat} (h4 : IsInt w2 v4 q) (h5 : IsInt w2 v5 r) (hdm : DM z1 z2 q r)
    (c0 : w2.cell? ⟨g, 0, none⟩ = some (.bool b0)) (c1 : w2.cell? ⟨g, 1, none⟩ = some (.slice a0 l0 k0)) (d0 : w2.cell? ⟨g + 1, 0, none⟩ = some (.bool b1)) (d1 : w2.cell? ⟨g + 1, 1, none⟩ = some (.slice a1 l1 k1))
    (hr : w.heap.size ≤ g) (e : Ext w w2) :
    RetDM z1 z2 w (.returned (.tuple #[v4, v5, .int .i64 0])) ((((w2.setCell ⟨g, 0, none⟩ u0).setCell ⟨g, 1, none⟩ u1).setCell ⟨g + 1, 0, none⟩ u2).setCell ⟨g + 1, 1, none⟩ u3) := by
  have k0 := keep_store (x := u0) (y := u1) (i := 0) (j := 1) (r := g) d0 (by omega)
  have k1 := keep_store (x := u0) (y := u1) (i := 0) (j := 1) (r := g) d1 (by omega)
  exact ⟨v4, v5, q, r, rfl, (h4.store2 c0 c1 _ _).store2 k0 k1 _ _, (h5.store2 c0 c1 _ _).store2 k0 k1 _ _, hdm,
    (((e.setCell (p := ⟨g, 0, none⟩) hr _).setCell (p := ⟨g, 1, none⟩) hr _).setCell (p := ⟨g + 1, 0, none⟩) (Nat.le_succ_of_le hr) _).setCell (p := ⟨g + 1, 1, none⟩) (Nat.le_succ_of_le hr) _⟩

set_option maxRecDepth 100000 in
set_option maxHeartbeats 6400000 in
theorem divMod_calls (w : World) (v1 v2 : Value) (z1 z2 : Int) (h : IsInt w v1 z1) (k : IsInt w v2 z2) (l1 : Sm z1) (l2 : Sm z2) (hz2 : z2 ≠ 0) (hD : DivOK z1.natAbs z2.natAbs) :
    Calls Tryd.prog 12 #[v1, v2] w (RetDM z1 z2 w) := by
  obtain ⟨ao, cap, s, n, rfl, h1, h2, h3, H4, H5, H6⟩ := h.open_
  obtain ⟨ao', cap', s', n', rfl, k1, k2, k3, K4, K5, K6⟩ := k.open_
  unfold Sm at l1 l2
  rw [← H4.out] at l1
  rw [← K4.out] at l2
  rw [← H4.out, ← K4.out] at hD
  have hn0 : 0 < n' := by have := K4.out; omega
  obtain ⟨W, hW, eW, c0, c1, d0, d1, ⟨q0, q1, fq0, fq1⟩, ⟨r0, r1, fr0, fr1⟩⟩ := boxes2rr w (.bool s) (.slice ao (limbs n).length cap) (.bool s') (.slice ao' (limbs n').length cap') 24
  have HVA := Lib.hid (isInt_raw h1 h2 h3 H6.out)
  have HVB := Lib.hid (isInt_raw k1 k2 k3 K6.out)
  have hbe : (((limbs n').length : Int) == 0) = false := by have := limbs_pos hn0; rw [beq_eq_false_iff_ne]; omega
  have HN := Lib.hid hn0
  clear hn0
  go_enter Tryd.func12, Tryd.ntmps12
  go_wp2_with fail
  clear hW
  refine (valid_calls W _ s (limbs n) (HVA.out.1.ext eW)).mono ?_
  rintro e w1 ⟨rfl, e1⟩
  rw [HVA.out.2]
  replace c0 := e1.cell c0
  replace c1 := e1.cell c1
  replace d0 := e1.cell d0
  replace d1 := e1.cell d1
  go_wp2_with fail
  refine (valid_calls w1 _ s' (limbs n') (HVB.out.1.ext (eW.trans e1))).mono ?_
  rintro e w2 ⟨rfl, e2⟩
  rw [HVB.out.2]
  replace c0 := e2.cell c0
  replace c1 := e2.cell c1
  replace d0 := e2.cell d0
  replace d1 := e2.cell d1
  go_wp2_with fail
  refine (hD w2 ao ao' cap cap' h1 k1 h2 k2 (h3.ext ((eW.trans e1).trans e2)) (k3.ext ((eW.trans e1).trans e2))).mono ?_
  rintro e w3 ⟨u1, u2, rfl, ⟨aq, cq, rfl, m1, m2, m3⟩, ⟨ar, cr, rfl, p1, p2, p3⟩, e3⟩
  replace c0 := e3.cell c0
  replace c1 := e3.cell c1
  replace d0 := e3.cell d0
  replace d1 := e3.cell d1
  have eA := (e1.trans e2).trans e3
  have hlq := lt_of_cell q0
  have hlr := lt_of_cell r0
  replace q0 := eA.cell q0
  replace q1 := eA.cell q1
  replace r0 := eA.cell r0
  replace r1 := eA.cell r1
  replace fq0 := eA.frozen (p := ⟨w.heap.size + 2, 0, none⟩) hlq fq0
  replace fq1 := eA.frozen (p := ⟨w.heap.size + 2, 1, none⟩) hlq fq1
  replace fr0 := eA.frozen (p := ⟨w.heap.size + 3, 0, none⟩) hlr fr0
  replace fr1 := eA.frozen (p := ⟨w.heap.size + 3, 1, none⟩) hlr fr1
  replace eW := eW.trans eA
  clear hlq hlr e1 e2 e3 eA hD
  by_cases hs : s = s'
  · subst hs
    have hb : (s == s) = true := by cases s <;> rfl
    have HE : Hid (DM z1 z2 (sgn false (n / n')) (sgn s (n % n'))) := by
      unfold Hid; rw [H5.out, K5.out]; have := dm_same s s n n' HN.out (.inl rfl); rw [hb] at this; exact this
    go_wp2_with fail
    clear c1 d1 HVA HVB hbe H4 H5 H6 K4 K5 K6 h k hz2 l1 l2 hb
    have c0d : w3.drew.cell? ⟨w.heap.size, 0, none⟩ = some (.bool s) := c0
    have d0d : w3.drew.cell? ⟨w.heap.size + 1, 0, none⟩ = some (.bool s) := d0
    go_region_held3 (fun w' => w'.cell? ⟨w.heap.size, 0, none⟩ = some (.bool s) ∧ w'.cell? ⟨w.heap.size + 1, 0, none⟩ = some (.bool s))
      (first | with_reducible exact ⟨c0d, d0d⟩ | with_reducible exact ⟨c04, d04⟩ | with_reducible exact ⟨c05, d05⟩ | with_reducible exact ⟨keep_store c05 (by omega), keep_store d05 (by omega)⟩ | exact ⟨keep_store (keep_store c05 (by omega)) (by omega), keep_store (keep_store d05 (by omega)) (by omega)⟩) ((first
        | (go_at_call 23; ((with_reducible refine (signedL_calls _ _ _ _ _ m1 m2 m3.drew).mono ?_)); rintro e w4 ⟨v4, rfl, hI4, e4⟩; obtain ⟨ao4, cap4, s4, n4, rfl, _⟩ := hI4.open_; have c04 := e4.of_drew.cell c0; have d04 := e4.of_drew.cell d0)
        | (go_at_call 23; ((with_reducible refine (signedL_calls _ _ _ _ _ p1 p2 (p3.ext e4.of_drew)).mono ?_)); rintro e w5 ⟨v5, rfl, hI5, e5⟩; obtain ⟨ao5, cap5, s5, n5, rfl, _⟩ := hI5.open_; have c05 := e5.cell c04; have d05 := e5.cell d04; have eB := e4.of_drew.trans e5; have q05 := eB.cell q0; have q15 := eB.cell q1; have r05 := eB.cell r0; have r15 := eB.cell r1; have fq05 := eB.frozen (lt_of_cell q0) fq0; have fq15 := eB.frozen (lt_of_cell q1) fq1; have fr05 := eB.frozen (lt_of_cell r0) fr0; have fr15 := eB.frozen (lt_of_cell r1) fr1)))
    go_wp2
    exact bodyPost_ret (v := .tuple #[.agg #[.bool s4, .slice ao4 (limbs n4).length cap4], .agg #[.bool s5, .slice ao5 (limbs n5).length cap5], .int .i64 0]) (by simp [results, Tryd.results12, go_sem, q05, q15, r05, r15]) rfl (fin_dm (hI4.ext e5) hI5 HE.out q05 q15 r05 r15 (by omega) (eW.trans eB))
  · have hb : (s == s') = false := by cases s <;> cases s' <;> simp_all
    by_cases hr0 : n % n' = 0
    · have HE : Hid (DM z1 z2 (sgn (!(s == s')) (n / n')) (sgn s' (n % n'))) := by
        unfold Hid; rw [H5.out, K5.out]; exact dm_same s s' n n' HN.out (.inr hr0)
      have hl0 : (((limbs (n % n')).length : Int) != 0) = false := by rw [hr0]; rfl
      clear hr0 hs
      go_wp2_with fail
      clear c1 d1 HVA HVB hbe H4 H5 H6 K4 K5 K6 h k hz2 l1 l2 hb
      have c0d : w3.drew.cell? ⟨w.heap.size, 0, none⟩ = some (.bool s) := c0
      have d0d : w3.drew.cell? ⟨w.heap.size + 1, 0, none⟩ = some (.bool s') := d0
      go_region_held3 (fun w' => w'.cell? ⟨w.heap.size, 0, none⟩ = some (.bool s) ∧ w'.cell? ⟨w.heap.size + 1, 0, none⟩ = some (.bool s'))
        (first | with_reducible exact ⟨c0d, d0d⟩ | with_reducible exact ⟨c04, d04⟩ | with_reducible exact ⟨c05, d05⟩ | with_reducible exact ⟨keep_store c05 (by omega), keep_store d05 (by omega)⟩ | exact ⟨keep_store (keep_store c05 (by omega)) (by omega), keep_store (keep_store d05 (by omega)) (by omega)⟩) ((first
          | (go_at_call 23; ((with_reducible refine (signedL_calls _ _ _ _ _ m1 m2 m3.drew).mono ?_)); rintro e w4 ⟨v4, rfl, hI4, e4⟩; obtain ⟨ao4, cap4, s4, n4, rfl, _⟩ := hI4.open_; have c04 := e4.of_drew.cell c0; have d04 := e4.of_drew.cell d0)
          | (go_at_call 23; ((with_reducible refine (signedL_calls _ _ _ _ _ p1 p2 (p3.ext e4.of_drew)).mono ?_)); rintro e w5 ⟨v5, rfl, hI5, e5⟩; obtain ⟨ao5, cap5, s5, n5, rfl, _⟩ := hI5.open_; have c05 := e5.cell c04; have d05 := e5.cell d04; have eB := e4.of_drew.trans e5; have q05 := eB.cell q0; have q15 := eB.cell q1; have r05 := eB.cell r0; have r15 := eB.cell r1; have fq05 := eB.frozen (lt_of_cell q0) fq0; have fq15 := eB.frozen (lt_of_cell q1) fq1; have fr05 := eB.frozen (lt_of_cell r0) fr0; have fr15 := eB.frozen (lt_of_cell r1) fr1)))
      go_wp2
      exact bodyPost_ret (v := .tuple #[.agg #[.bool s4, .slice ao4 (limbs n4).length cap4], .agg #[.bool s5, .slice ao5 (limbs n5).length cap5], .int .i64 0]) (by simp [results, Tryd.results12, go_sem, q05, q15, r05, r15]) rfl (fin_dm (hI4.ext e5) hI5 HE.out q05 q15 r05 r15 (by omega) (eW.trans eB))
    · have HE : Hid (DM z1 z2 (sgn (!(s == s')) (n / n' + 1)) (sgn s' (n' - n % n'))) := by
        unfold Hid; rw [H5.out, K5.out]; exact dm_other s s' n n' HN.out hs hr0
      have hl0 : (((limbs (n % n')).length : Int) != 0) = true := by have := limbs_pos (n := n % n') (by omega); rw [bne_iff_ne]; omega
      have hrl : n % n' ≤ n' := Nat.le_of_lt (Nat.mod_lt _ HN.out)
      have hql : (limbs (n / n')).length ≤ 1048576 := Nat.le_trans (limbs_len_mono (Nat.div_le_self _ _)) l1
      have HRL := Lib.hid (And.intro hrl hql)
      have hadd := addLimbs_calls (w3.alloc (.cells #[.int .u32 1] 38)) aq (some ⟨w3.heap.size, 0, none⟩) (limbs (n / n')) [1] cq 1 (by omega) (by simp) (m3.ext ((Ext.refl w3).alloc _)) (Blk.new w3 [1]).cells (dig_limbs _) (Dig.cons (by omega) Dig.nil)
      rw [val_limbs, show val [1] = 1 from rfl] at hadd
      have HA := Lib.hid hadd
      clear hr0 hs hrl hql hadd
      go_wp2_with fail
      refine HA.out.mono ?_
      rintro e w6 ⟨u6, rfl, ⟨a6, c6, rfl, x1, x2, x3⟩, e6⟩
      replace e6 := ((Ext.refl w3).alloc _).trans e6
      replace c0 := e6.cell c0
      replace c1 := e6.cell c1
      replace d0 := e6.cell d0
      replace d1 := e6.cell d1
      replace fq0 := e6.frozen (lt_of_cell q0) fq0
      replace fq1 := e6.frozen (lt_of_cell q1) fq1
      replace fr0 := e6.frozen (lt_of_cell r0) fr0
      replace fr1 := e6.frozen (lt_of_cell r1) fr1
      replace q0 := e6.cell q0
      replace q1 := e6.cell q1
      replace r0 := e6.cell r0
      replace r1 := e6.cell r1
      replace eW := eW.trans e6
      replace p3 := p3.ext e6
      have hsub := Lib.hid (subtractLimbs_calls w6 ao' ar n' (n % n') cap' cr (by omega) HRL.out.1 k1 (k3.ext eW) p3)
      clear HA HRL e6
      go_wp2_with fail
      refine hsub.out.mono ?_
      rintro e w7 ⟨u7, rfl, ⟨a7, c7, rfl, y1, y2, y3⟩, e7⟩
      replace c0 := e7.cell c0
      replace c1 := e7.cell c1
      replace d0 := e7.cell d0
      replace d1 := e7.cell d1
      replace fq0 := e7.frozen (lt_of_cell q0) fq0
      replace fq1 := e7.frozen (lt_of_cell q1) fq1
      replace fr0 := e7.frozen (lt_of_cell r0) fr0
      replace fr1 := e7.frozen (lt_of_cell r1) fr1
      replace q0 := e7.cell q0
      replace q1 := e7.cell q1
      replace r0 := e7.cell r0
      replace r1 := e7.cell r1
      replace eW := eW.trans e7
      replace x3 := x3.ext e7
      clear e7 hsub
      go_wp2_with fail
      clear c1 d1 HVA HVB hbe H4 H5 H6 K4 K5 K6 h k hz2 l1 l2 hb
      have c0d : w7.drew.cell? ⟨w.heap.size, 0, none⟩ = some (.bool s) := c0
      have d0d : w7.drew.cell? ⟨w.heap.size + 1, 0, none⟩ = some (.bool s') := d0
      go_region_held3 (fun w' => w'.cell? ⟨w.heap.size, 0, none⟩ = some (.bool s) ∧ w'.cell? ⟨w.heap.size + 1, 0, none⟩ = some (.bool s'))
        (first | with_reducible exact ⟨c0d, d0d⟩ | with_reducible exact ⟨c04, d04⟩ | with_reducible exact ⟨c05, d05⟩ | with_reducible exact ⟨keep_store c05 (by omega), keep_store d05 (by omega)⟩ | exact ⟨keep_store (keep_store c05 (by omega)) (by omega), keep_store (keep_store d05 (by omega)) (by omega)⟩) ((first
          | (go_at_call 23; ((with_reducible refine (signedL_calls _ _ _ _ _ x1 x2 x3.drew).mono ?_)); rintro e w4 ⟨v4, rfl, hI4, e4⟩; obtain ⟨ao4, cap4, s4, n4, rfl, _⟩ := hI4.open_; have c04 := e4.of_drew.cell c0; have d04 := e4.of_drew.cell d0)
          | (go_at_call 23; ((with_reducible refine (signedL_calls _ _ _ _ _ y1 y2 (y3.ext e4.of_drew)).mono ?_)); rintro e w5 ⟨v5, rfl, hI5, e5⟩; obtain ⟨ao5, cap5, s5, n5, rfl, _⟩ := hI5.open_; have c05 := e5.cell c04; have d05 := e5.cell d04; have eB := e4.of_drew.trans e5; have q05 := eB.cell q0; have q15 := eB.cell q1; have r05 := eB.cell r0; have r15 := eB.cell r1; have fq05 := eB.frozen (lt_of_cell q0) fq0; have fq15 := eB.frozen (lt_of_cell q1) fq1; have fr05 := eB.frozen (lt_of_cell r0) fr0; have fr15 := eB.frozen (lt_of_cell r1) fr1)))
      go_wp2
      exact bodyPost_ret (v := .tuple #[.agg #[.bool s4, .slice ao4 (limbs n4).length cap4], .agg #[.bool s5, .slice ao5 (limbs n5).length cap5], .int .i64 0]) (by simp [results, Tryd.results12, go_sem, q05, q15, r05, r15]) rfl (fin_dm (hI4.ext e5) hI5 HE.out q05 q15 r05 r15 (by omega) (eW.trans eB))

end Go.Proofs.YtmofkmdacfdejaaDoor
end

/- ---- Gcds ---- -/
section
/-
  gcdSmall, and GCD of integers with at most two limbs.
-/
set_option maxRecDepth 100000
namespace Go.Proofs.YtmofkmdacfdejaaDoor
open Go.RowKit

set_option maxRecDepth 100000 in
set_option maxHeartbeats 800000 in
theorem gcdSmall_calls (w : World) (m n : Nat) (hm : m ≤ 18446744073709551615) (hn : n ≤ 18446744073709551615) :
    Calls Tryd.prog 36 #[.int .u64 (m : Int), .int .u64 (n : Int)] w fun e w' => e = .returned (.int .u64 ((Nat.gcd m n : Nat) : Int)) ∧ Ext w w' := by
  have HMN := Lib.hid (And.intro hm hn)
  clear hm hn
  go_enter Tryd.func36, Tryd.ntmps36
  go_wp2
  go_loopw [0, 1] (fun x y wr => ∃ a b : Nat, x = .int .u64 a ∧ y = .int .u64 b ∧ Hid (a ≤ 18446744073709551615 ∧ b ≤ 18446744073709551615) ∧ Hid (Nat.gcd a b = Nat.gcd m n) ∧ Ext w wr) (fun _ y _ => (intOf y).toNat)
  case atStart => exact ⟨m, n, rfl, rfl, HMN, rfl, Ext.refl w⟩
  case round =>
    obtain ⟨a, b, rfl, rfl, HAB, HG, hE⟩ := hrel
    rcases Nat.eq_zero_or_pos b with h0 | h0
    · subst h0
      go_wp2
      go_ret
      exact ⟨ret_int (by rw [← HG.out, Nat.gcd_zero_right]), hE⟩
    · have hb0 : ((b : Int) != 0) = true := by rw [bne_iff_ne]; omega
      obtain ⟨r, hr⟩ : ∃ r, r = a % b := ⟨_, rfl⟩
      have hrb := Nat.mod_lt a h0
      obtain ⟨f1, f2⟩ := rem_nat a b r hr
      have h1 : ¬ b = 0 := by omega
      have HR := Lib.hid (show r < b ∧ Nat.gcd b r = Nat.gcd m n by
        rw [hr]
        refine ⟨hrb, ?_⟩
        rw [← HG.out, Nat.gcd_comm a b, Nat.gcd_rec b a, Nat.gcd_comm])
      clear hr hrb h0
      go_wp2
      go_quiet (fail)
      go_wp2
      go_roundw
      case rel => exact ⟨b, r, rfl, by first | rfl | exact vint f1, ⟨HAB.out.2, by have := HR.out.1; have := HAB.out.2; omega⟩, HR.out.2, hE.drewN _⟩
      case measure => have := HR.out.1; simp [intOf]; omega

/-- GCD where the lesser absolute value has at most two limbs. -/
def GcdStart (n n' : Nat) : Prop := (limbs n).length ≤ 1048576 ∧ (limbs n').length ≤ 1048576
set_option maxRecDepth 100000 in
set_option maxHeartbeats 6400000 in
theorem gcd_small (w : World) (v1 v2 : Value) (z1 z2 : Int) (h : IsInt w v1 z1) (k : IsInt w v2 z2) (l1 : Sm z1) (l2 : Sm z2) (hmin : (limbs z1.natAbs).length ≤ 2 ∧ (limbs z2.natAbs).length ≤ 2)
    (hD : ∀ m n, 0 < n → (m = z1.natAbs ∧ n = z2.natAbs ∨ m = z2.natAbs ∧ n = z1.natAbs) → DivOK m n) :
    Calls Tryd.prog 16 #[v1, v2] w (Ret (fun v w' => IsInt w' v ((Nat.gcd z1.natAbs z2.natAbs : Nat) : Int)) w) := by
  obtain ⟨ao, cap, s, n, rfl, h1, h2, h3, H4, H5, H6⟩ := h.open_
  obtain ⟨ao', cap', s', n', rfl, k1, k2, k3, K4, K5, K6⟩ := k.open_
  unfold Sm at l1 l2
  rw [← H4.out] at l1 hmin
  rw [← K4.out] at l2 hmin
  rw [← H4.out, ← K4.out] at hD ⊢
  have HL : Hid ((limbs n).length ≤ 2 ∧ (limbs n').length ≤ 2) := hmin
  obtain ⟨W, hW, eW, c0, c1, d0, d1, r0, r1, f0, f1⟩ := boxes2r w (.bool s) (.slice ao (limbs n).length cap) (.bool s') (.slice ao' (limbs n').length cap') 24
  have HVA := Lib.hid (isInt_raw h1 h2 h3 H6.out)
  have HVB := Lib.hid (isInt_raw k1 k2 k3 K6.out)
  clear H5 K5 hmin h k
  go_enter Tryd.func16, Tryd.ntmps16
  go_wp2_with fail
  clear hW
  refine (valid_calls W _ s (limbs n) (HVA.out.1.ext eW)).mono ?_
  rintro e w1 ⟨rfl, e1⟩
  rw [HVA.out.2]
  replace c0 := e1.cell c0
  replace c1 := e1.cell c1
  replace d0 := e1.cell d0
  replace d1 := e1.cell d1
  go_wp2_with fail
  refine (valid_calls w1 _ s' (limbs n') (HVB.out.1.ext (eW.trans e1))).mono ?_
  rintro e w2 ⟨rfl, e2⟩
  rw [HVB.out.2]
  have eA := e1.trans e2
  replace c0 := e2.cell c0
  replace c1 := e2.cell c1
  replace d0 := e2.cell d0
  replace d1 := e2.cell d1
  replace f0 := eA.frozen (lt_of_cell r0) f0
  replace f1 := eA.frozen (lt_of_cell r1) f1
  replace r0 := eA.cell r0
  replace r1 := eA.cell r1
  replace eW := eW.trans eA
  clear HVA HVB e1 e2 eA
  go_wp2_with fail
  go_quiet (fail)
  clear c0 c1 d0 d1
  replace eW := eW.drewN nq
  have rr0 : (w2.drewN nq).cell? ⟨w.heap.size + 2, 0, none⟩ = some (.bool false) := r0
  have rr1 : (w2.drewN nq).cell? ⟨w.heap.size + 2, 1, none⟩ = some (.slice none 0 0) := r1
  have ff0 : (w2.drewN nq).frozen? ⟨w.heap.size + 2, 0, none⟩ = false := f0
  have ff1 : (w2.drewN nq).frozen? ⟨w.heap.size + 2, 1, none⟩ = false := f1
  clear r0 r1 f0 f1
  generalize w2.drewN nq = w3 at *
  have hbl := Lib.hid (show (limbs n).length ≤ 9223372036854775807 ∧ (limbs n').length ≤ 9223372036854775807 by omega)
  clear l1 l2
  go_wp2_with fail
  refine (compareLimbs_calls _ _ _ n n' _ _ hbl.out.1 hbl.out.2 (h3.ext eW) (k3.ext eW)).mono ?_
  rintro e w4 ⟨rfl, j, hw4⟩
  have e4 : Ext w3 w4 := by rw [hw4]; exact (Ext.refl w3).drewN j
  have r0 := e4.cell rr0
  have r1 := e4.cell rr1
  have f0 := e4.frozen (lt_of_cell rr0) ff0
  have f1 := e4.frozen (lt_of_cell rr1) ff1
  replace eW := eW.trans e4
  clear hw4 hbl rr0 rr1 ff0 ff1 e4
  by_cases hc : cmpZ n n' < 0
  · have hD' := fun h0 => hD n' n h0 (.inr ⟨rfl, rfl⟩)
    have HDD := Lib.hid hD'
    clear hD hD'
    have hD' := HDD.out
    clear HDD
    rcases Nat.eq_zero_or_pos n with h0 | h0
    · have HG : Hid ((n' : Nat) = Nat.gcd n n') := by unfold Hid; subst h0; simp
      have hl0 : (limbs n).length = 0 := by rw [h0]; rfl
      clear h0
      go_wp2_with fail
      refine wp_loop_rounds 1 ?_
      rw [rounds_succ]
      go_wp2_with fail
      refine (clone_calls w4 ao' (limbs n') cap' (by have := HL.out; omega) (k3.ext eW) k1).mono ?_
      rintro e w3 ⟨a3, c3, rfl, x1, x2, e3, x3⟩
      have x4 := Cloned.cells x3
      clear x3
      go_wp2_with fail
      refine (signedL_calls _ _ _ _ _ x1 x2 x4).mono ?_
      rintro e w4 ⟨v4, rfl, hI, e4⟩
      have hI2 : IsInt w4 v4 ((Nat.gcd n n' : Nat) : Int) := by rw [← HG.out]; exact hI
      clear hI
      obtain ⟨ao4, cap4, s4, n4, rfl, _⟩ := hI2.open_
      have eA := e3.trans e4
      have r02 := eA.cell r0
      have r12 := eA.cell r1
      have f02 := eA.frozen (lt_of_cell r0) f0
      have f12 := eA.frozen (lt_of_cell r1) f1
      clear r0 r1 f0 f1
      go_wp2
      exact bodyPost_ret (v := .agg #[.bool s4, .slice ao4 (limbs n4).length cap4]) (by simp [results, Tryd.results16, go_sem, r02, r12]) rfl (fin_int hI2 r02 r12 (by omega) (eW.trans eA))
    · have hyb : n < 1000000000000000000 := by have := lt_of_limbs_len (n := n) (k := 2) (by have := HL.out; omega); omega
      have hrb := Nat.mod_lt n' h0
      have hdiv := hD' h0 w4 ao' ao cap' cap k1 h1 k2 h2 (k3.ext eW) (h3.ext eW)
      have HDIV := Lib.hid hdiv
      have hlp := limbs_pos h0
      have hl0 : (((limbs n).length : Int) == 0) = false := by rw [beq_eq_false_iff_ne]; omega
      have hl2 : decide ((2 : Int) < ((limbs n).length : Int)) = false := decide_eq_false (by have := HL.out; omega)
      have HG : Hid (Nat.gcd n (n' % n) = Nat.gcd n n' ∧ n ≤ 18446744073709551615 ∧ n' % n ≤ 18446744073709551615 ∧ Nat.gcd n (n' % n) ≤ 18446744073709551615) := by
        have e : Nat.gcd n (n' % n) = Nat.gcd n n' := by rw [Nat.gcd_comm, ← Nat.gcd_rec]
        have hle : Nat.gcd n (n' % n) ≤ n := Nat.gcd_le_left _ h0
        exact ⟨e.trans (by first | rfl | exact Nat.gcd_comm _ _), by omega, by omega, by omega⟩
      clear hyb hrb hlp h0 hdiv
      go_wp2_with fail
      refine wp_loop_rounds 1 ?_
      rw [rounds_succ]
      go_wp2_with fail
      refine HDIV.out.mono ?_
      rintro e w3 ⟨u1, u2, rfl, ⟨aq, cq, rfl, m1, m2, m3⟩, ⟨ar, cr, rfl, p1, p2, p3⟩, e3⟩
      have hvy := Lib.hid (valueOf_calls w3 ao (limbs n) cap h1 h2 (h3.ext (eW.trans e3)) (by rw [val_limbs]; exact HG.out.2.1))
      have hvr := Lib.hid (valueOf_calls w3 ar (limbs (n' % n)) cr p1 p2 p3 (by rw [val_limbs]; exact HG.out.2.2.1))
      rw [val_limbs] at hvy hvr
      clear HDIV
      go_wp2_with fail
      refine hvy.out.mono ?_
      rintro e w' ⟨rfl, rfl⟩
      go_wp2_with fail
      refine hvr.out.mono ?_
      rintro e w' ⟨rfl, rfl⟩
      have hgs := Lib.hid (gcdSmall_calls w3 n (n' % n) HG.out.2.1 HG.out.2.2.1)
      rw [HG.out.1] at hgs
      obtain ⟨rr, hrr⟩ : ∃ rr, rr = n' % n := ⟨_, rfl⟩
      obtain ⟨gg, hgg⟩ : ∃ gg, gg = Nat.gcd n n' := ⟨_, rfl⟩
      have HGG := Lib.hid (show gg ≤ 18446744073709551615 by rw [hgg, ← HG.out.1]; exact HG.out.2.2.2)
      rw [← hrr, ← hgg] at hgs
      have HQ := Lib.hid hgg
      have HRR := Lib.hid hrr
      clear hgg
      rw [← HRR.out]
      clear hrr
      go_wp2_with fail
      refine hgs.out.mono ?_
      rintro e w4 ⟨rfl, e4⟩
      go_wp2_with fail
      refine (limbsOf_calls _ gg HGG.out).mono ?_
      rintro e w5 ⟨v5, rfl, ⟨a5, c5, rfl, x1, x2, x3⟩, e5⟩
      go_wp2_with fail
      refine (signedL_calls _ _ _ _ _ x1 x2 x3).mono ?_
      rintro e w6 ⟨v6, rfl, hI, e6⟩
      have hI2 : IsInt w6 v6 ((Nat.gcd n n' : Nat) : Int) := by rw [← HQ.out]; exact hI
      clear hI
      obtain ⟨ao4, cap4, s4, n4, rfl, _⟩ := hI2.open_
      have eA := ((e3.trans e4).trans e5).trans e6
      have r02 := eA.cell r0
      have r12 := eA.cell r1
      have f02 := eA.frozen (lt_of_cell r0) f0
      have f12 := eA.frozen (lt_of_cell r1) f1
      clear r0 r1 f0 f1
      go_wp2
      exact bodyPost_ret (v := .agg #[.bool s4, .slice ao4 (limbs n4).length cap4]) (by simp [results, Tryd.results16, go_sem, r02, r12]) rfl (fin_int hI2 r02 r12 (by omega) (eW.trans eA))
  · have hD' := fun h0 => hD n n' h0 (.inl ⟨rfl, rfl⟩)
    clear hD
    replace hc : (0 : Int) ≤ cmpZ n n' := by omega
    rcases Nat.eq_zero_or_pos n' with h0 | h0
    · have HG : Hid ((n : Nat) = Nat.gcd n n') := by unfold Hid; subst h0; simp
      have hl0 : (limbs n').length = 0 := by rw [h0]; rfl
      clear h0
      go_wp2_with fail
      refine wp_loop_rounds 1 ?_
      rw [rounds_succ]
      go_wp2_with fail
      refine (clone_calls w4 ao (limbs n) cap (by have := HL.out; omega) (h3.ext eW) h1).mono ?_
      rintro e w3 ⟨a3, c3, rfl, x1, x2, e3, x3⟩
      have x4 := Cloned.cells x3
      clear x3
      go_wp2_with fail
      refine (signedL_calls _ _ _ _ _ x1 x2 x4).mono ?_
      rintro e w4 ⟨v4, rfl, hI, e4⟩
      have hI2 : IsInt w4 v4 ((Nat.gcd n n' : Nat) : Int) := by rw [← HG.out]; exact hI
      clear hI
      obtain ⟨ao4, cap4, s4, n4, rfl, _⟩ := hI2.open_
      have eA := e3.trans e4
      have r02 := eA.cell r0
      have r12 := eA.cell r1
      have f02 := eA.frozen (lt_of_cell r0) f0
      have f12 := eA.frozen (lt_of_cell r1) f1
      clear r0 r1 f0 f1
      go_wp2
      exact bodyPost_ret (v := .agg #[.bool s4, .slice ao4 (limbs n4).length cap4]) (by simp [results, Tryd.results16, go_sem, r02, r12]) rfl (fin_int hI2 r02 r12 (by omega) (eW.trans eA))
    · have hyb : n' < 1000000000000000000 := by have := lt_of_limbs_len (n := n') (k := 2) (by have := HL.out; omega); omega
      have hrb := Nat.mod_lt n h0
      have hdiv := hD' h0 w4 ao ao' cap cap' h1 k1 h2 k2 (h3.ext eW) (k3.ext eW)
      have HDIV := Lib.hid hdiv
      have hlp := limbs_pos h0
      have hl0 : (((limbs n').length : Int) == 0) = false := by rw [beq_eq_false_iff_ne]; omega
      have hl2 : decide ((2 : Int) < ((limbs n').length : Int)) = false := decide_eq_false (by have := HL.out; omega)
      have HG : Hid (Nat.gcd n' (n % n') = Nat.gcd n n' ∧ n' ≤ 18446744073709551615 ∧ n % n' ≤ 18446744073709551615 ∧ Nat.gcd n' (n % n') ≤ 18446744073709551615) := by
        have e : Nat.gcd n' (n % n') = Nat.gcd n' n := by rw [Nat.gcd_comm, ← Nat.gcd_rec]
        have hle : Nat.gcd n' (n % n') ≤ n' := Nat.gcd_le_left _ h0
        exact ⟨e.trans (by first | rfl | exact Nat.gcd_comm _ _), by omega, by omega, by omega⟩
      clear hyb hrb hlp h0 hdiv
      go_wp2_with fail
      refine wp_loop_rounds 1 ?_
      rw [rounds_succ]
      go_wp2_with fail
      refine HDIV.out.mono ?_
      rintro e w3 ⟨u1, u2, rfl, ⟨aq, cq, rfl, m1, m2, m3⟩, ⟨ar, cr, rfl, p1, p2, p3⟩, e3⟩
      have hvy := Lib.hid (valueOf_calls w3 ao' (limbs n') cap' k1 k2 (k3.ext (eW.trans e3)) (by rw [val_limbs]; exact HG.out.2.1))
      have hvr := Lib.hid (valueOf_calls w3 ar (limbs (n % n')) cr p1 p2 p3 (by rw [val_limbs]; exact HG.out.2.2.1))
      rw [val_limbs] at hvy hvr
      clear HDIV
      go_wp2_with fail
      refine hvy.out.mono ?_
      rintro e w' ⟨rfl, rfl⟩
      go_wp2_with fail
      refine hvr.out.mono ?_
      rintro e w' ⟨rfl, rfl⟩
      have hgs := Lib.hid (gcdSmall_calls w3 n' (n % n') HG.out.2.1 HG.out.2.2.1)
      rw [HG.out.1] at hgs
      obtain ⟨rr, hrr⟩ : ∃ rr, rr = n % n' := ⟨_, rfl⟩
      obtain ⟨gg, hgg⟩ : ∃ gg, gg = Nat.gcd n n' := ⟨_, rfl⟩
      have HGG := Lib.hid (show gg ≤ 18446744073709551615 by rw [hgg, ← HG.out.1]; exact HG.out.2.2.2)
      rw [← hrr, ← hgg] at hgs
      have HQ := Lib.hid hgg
      have HRR := Lib.hid hrr
      clear hgg
      rw [← HRR.out]
      clear hrr
      go_wp2_with fail
      refine hgs.out.mono ?_
      rintro e w4 ⟨rfl, e4⟩
      go_wp2_with fail
      refine (limbsOf_calls _ gg HGG.out).mono ?_
      rintro e w5 ⟨v5, rfl, ⟨a5, c5, rfl, x1, x2, x3⟩, e5⟩
      go_wp2_with fail
      refine (signedL_calls _ _ _ _ _ x1 x2 x3).mono ?_
      rintro e w6 ⟨v6, rfl, hI, e6⟩
      have hI2 : IsInt w6 v6 ((Nat.gcd n n' : Nat) : Int) := by rw [← HQ.out]; exact hI
      clear hI
      obtain ⟨ao4, cap4, s4, n4, rfl, _⟩ := hI2.open_
      have eA := ((e3.trans e4).trans e5).trans e6
      have r02 := eA.cell r0
      have r12 := eA.cell r1
      have f02 := eA.frozen (lt_of_cell r0) f0
      have f12 := eA.frozen (lt_of_cell r1) f1
      clear r0 r1 f0 f1
      go_wp2
      exact bodyPost_ret (v := .agg #[.bool s4, .slice ao4 (limbs n4).length cap4]) (by simp [results, Tryd.results16, go_sem, r02, r12]) rfl (fin_int hI2 r02 r12 (by omega) (eW.trans eA))

end Go.Proofs.YtmofkmdacfdejaaDoor
end

/- ---- Sqrts ---- -/
section
/-
  math/bits.Div64 where the upper half is 0, and Sqrt of 99.
-/
set_option maxRecDepth 100000
namespace Go.Proofs.YtmofkmdacfdejaaDoor
open Go.RowKit

set_option maxRecDepth 100000 in
set_option maxHeartbeats 800000 in
theorem div64_zero (w : World) (m n : Nat) (hm : m ≤ 18446744073709551615) (hn : 0 < n) :
    Calls Tryd.prog 63 #[.int .u64 0, .int .u64 (m : Int), .int .u64 (n : Int)] w fun e w' => e = .returned (.tuple #[.int .u64 ((m / n : Nat) : Int), .int .u64 ((m % n : Nat) : Int)]) ∧ Ext w w' := by
  obtain ⟨q, hq⟩ : ∃ q, q = m / n := ⟨_, rfl⟩
  obtain ⟨r, hr⟩ : ∃ r, r = m % n := ⟨_, rfl⟩
  have f0 := wrap_quo m n q hm hq
  obtain ⟨f1, f2⟩ := rem_nat m n r hr
  rw [← hq, ← hr]
  have h0 : ((n : Int) == 0) = false := by rw [beq_eq_false_iff_ne]; omega
  have h1 : ¬ n = 0 := by omega
  have h2 : (0 : Int) < (n : Int) := by omega
  clear hq hr hm hn
  go_enter Tryd.func63, Tryd.ntmps63
  go_wp2
  go_quiet (fail)
  go_wp2
  go_ret2
  exact ⟨rfl, (Ext.refl w).drewN _⟩

set_option maxRecDepth 100000 in
set_option maxHeartbeats 800000 in
theorem len64_99 (w : World) : Calls Tryd.prog 62 #[.int .u64 99] w fun e w' => e = .returned (.int .i64 7) ∧ w = w' := by
  go_enter Tryd.func62, Tryd.ntmps62
  go_wp2
  go_ret
  exact ⟨ret_int (by kernel_rfl), rfl⟩

theorem div99 (w : World) (K Q R : Int) (k : Nat) (hk : K = k) (h0 : 0 < k) (hQ : Q = ((99 / k : Nat) : Int)) (hR : R = ((99 % k : Nat) : Int)) :
    Calls Tryd.prog 63 #[.int .u64 0, .int .u64 99, .int .u64 K] w fun e w' => e = .returned (.tuple #[.int .u64 Q, .int .u64 R]) ∧ Ext w w' := by
  subst hk hQ hR
  exact div64_zero w 99 k (by omega) h0

set_option maxRecDepth 100000 in
set_option maxHeartbeats 800000 in
theorem sqrtSmall_99 (w : World) : Calls Tryd.prog 46 #[.int .u64 0, .int .u64 99] w fun e w' => e = .returned (.int .u64 9) ∧ Ext w w' := by
  go_enter Tryd.func46, Tryd.ntmps46
  go_wp2_with (go_at_call 62; refine (len64_99 _).mono ?_; rintro e w' ⟨rfl, rfl⟩)
  refine wp_loop_rounds 4 ?_
  rw [rounds_succ]
  go_wp2_with fail
  refine (div99 _ 16 6 3 16 rfl (by omega) rfl rfl).mono ?_
  rintro e w1 ⟨rfl, e1⟩
  go_wp2_with fail
  rw [rounds_succ]
  go_wp2_with fail
  refine (div99 _ 11 9 0 11 rfl (by omega) rfl rfl).mono ?_
  rintro e w2 ⟨rfl, e2⟩
  go_wp2_with fail
  rw [rounds_succ]
  go_wp2_with fail
  refine (div99 _ 10 9 9 10 rfl (by omega) rfl rfl).mono ?_
  rintro e w3 ⟨rfl, e3⟩
  go_wp2_with fail
  rw [rounds_succ]
  go_wp2_with fail
  refine (div99 _ 9 11 0 9 rfl (by omega) rfl rfl).mono ?_
  rintro e w4 ⟨rfl, e4⟩
  go_wp2_with fail
  go_ret
  exact ⟨rfl, ((e1.trans e2).trans e3).trans e4⟩

set_option maxHeartbeats 400000 in
theorem split_99 (w : World) (ao : Option Addr) (cap : Nat) (h1 : (limbs 99).length ≤ cap) (h2 : cap ≤ 9223372036854775807) (h3 : Cells w ao (limbs 99)) :
    Calls Tryd.prog 47 #[.slice ao (limbs 99).length cap] w fun e w' => e = .returned (.tuple #[.int .u64 0, .int .u64 99]) ∧ w = w' := by
  have hv := valueOf_calls w ao (limbs 99) cap h1 h2 h3 (by rw [val_limbs]; omega)
  rw [val_limbs] at hv
  have HV := Lib.hid hv
  have hl : (limbs 99).length = 1 := rfl
  clear hv h1 h3
  go_enter Tryd.func47, Tryd.ntmps47
  go_wp2_with fail
  rw [← hl]
  refine HV.out.mono ?_
  rintro e w' ⟨rfl, rfl⟩
  go_wp2
  go_ret2
  exact ⟨rfl, rfl⟩

set_option maxHeartbeats 400000 in
theorem sqrtLimbs_99 (w : World) (ao : Option Addr) (cap : Nat) (h1 : (limbs 99).length ≤ cap) (h2 : cap ≤ 9223372036854775807) (h3 : Cells w ao (limbs 99)) :
    Calls Tryd.prog 31 #[.slice ao (limbs 99).length cap] w (Ret (IsLimbs 9) w) := by
  have HV := Lib.hid (split_99 w ao cap h1 h2 h3)
  have hl : (limbs 99).length = 1 := rfl
  clear h1 h3
  go_enter Tryd.func31, Tryd.ntmps31
  go_wp2_with fail
  rw [← hl]
  refine HV.out.mono ?_
  rintro e w' ⟨rfl, rfl⟩
  go_wp2_with fail
  refine (sqrtSmall_99 _).mono ?_
  rintro e w1 ⟨rfl, e1⟩
  go_wp2_with fail
  refine (limbsOf_calls _ 9 (by omega)).mono ?_
  rintro e w2 ⟨v, rfl, ⟨ao2, cap2, rfl, k1, k2, k3⟩, e2⟩
  go_wp2
  go_ret
  exact ⟨_, rfl, ⟨_, _, rfl, k1, k2, k3⟩, e1.trans e2⟩

/-- What Sqrt returns. -/
def RetSq (z : Int) (w : World) (e : Ending) (w' : World) : Prop := ∃ v, e = .returned (.tuple #[v, .int .i64 0]) ∧ IsInt w' v z ∧ Ext w w'
set_option maxHeartbeats 800000 in
theorem sqrt_99 (w : World) (v : Value) (h : IsInt w v 99) : Calls Tryd.prog 14 #[v] w (RetSq 9 w) := by
  obtain ⟨ao, cap, hv, h1, h2, h3⟩ := h
  have hv' : v = .agg #[.bool false, .slice ao (limbs 99).length cap] := hv
  have h1' : (limbs 99).length ≤ cap := h1
  have h3' : Cells w ao (limbs 99) := h3
  clear hv h1 h3
  subst hv'
  obtain ⟨W, hW, eW, c0, c1, r0, r1, f0, f1⟩ := boxes1r w (.bool false) (.slice ao (limbs 99).length cap) 24
  have HVA := Lib.hid (isInt_raw (s := false) h1' h2 h3' (by simp))
  go_enter Tryd.func14, Tryd.ntmps14
  go_wp2_with fail
  clear hW
  refine (valid_calls W _ false (limbs 99) (HVA.out.1.ext eW)).mono ?_
  rintro e w1 ⟨rfl, e1⟩
  rw [HVA.out.2]
  replace c0 := e1.cell c0
  replace c1 := e1.cell c1
  go_wp2_with fail
  refine (sqrtLimbs_99 w1 ao cap h1' h2 (h3'.ext (eW.trans e1))).mono ?_
  rintro e w2 ⟨v2, rfl, ⟨ao2, cap2, rfl, k1, k2, k3⟩, e2⟩
  go_wp2_with fail
  refine (signedL_calls _ _ _ 9 _ k1 k2 k3).mono ?_
  rintro e w3 ⟨v3, rfl, hI, e3⟩
  obtain ⟨ao3, cap3, s3, n3, rfl, _⟩ := hI.open_
  have eA := (e1.trans e2).trans e3
  have r02 := eA.cell r0
  have r12 := eA.cell r1
  have f02 := eA.frozen (lt_of_cell r0) f0
  have f12 := eA.frozen (lt_of_cell r1) f1
  clear r0 r1 f0 f1 c0 c1
  go_wp2
  obtain ⟨u, hu, hu2, hu3⟩ := fin_int hI r02 r12 (by omega) (eW.trans eA)
  injection hu with hu
  subst hu
  exact bodyPost_ret (v := .tuple #[.agg #[.bool s3, .slice ao3 (limbs n3).length cap3], .int .i64 0]) (by simp [results, Tryd.results14, go_sem, r02, r12]) rfl ⟨_, rfl, hu2, hu3⟩

end Go.Proofs.YtmofkmdacfdejaaDoor
end

/- ---- Awake ---- -/
section
/-
  The examples of the document: awake returns true.
-/
set_option maxRecDepth 100000
namespace Go.Proofs.YtmofkmdacfdejaaDoor
open Go.RowKit

set_option maxRecDepth 100000 in
set_option maxHeartbeats 800000 in
theorem cut_0 (w : World) : Calls Tryd.prog 20 #[.string ⟨#[45, 48]⟩, .string ⟨#[45]⟩] w fun e w' => e = .returned (.tuple #[.string ⟨#[48]⟩, .bool true]) ∧ Ext w w' := by
  have h0 : (((⟨#[45, 48]⟩ : ByteArray).extract 0 1).toList == [45]) = true := by kernel_rfl
  have h1 : ((⟨#[45, 48]⟩ : ByteArray).extract 1 2) = ⟨#[48]⟩ := by kernel_rfl
  go_enter Tryd.func20, Tryd.ntmps20
  go_wp2
  go_ret2
  exact ⟨rfl, Ext.refl w⟩

set_option maxRecDepth 100000 in
set_option maxHeartbeats 800000 in
theorem cut_01 (w : World) : Calls Tryd.prog 20 #[.string ⟨#[48, 49]⟩, .string ⟨#[45]⟩] w fun e w' => e = .returned (.tuple #[.string ⟨#[48, 49]⟩, .bool false]) ∧ Ext w w' := by
  have h0 : (((⟨#[48, 49]⟩ : ByteArray).extract 0 1).toList == [45]) = false := by kernel_rfl
  go_enter Tryd.func20, Tryd.ntmps20
  go_wp2
  go_ret2
  exact ⟨rfl, Ext.refl w⟩

set_option maxRecDepth 100000 in
set_option maxHeartbeats 800000 in
theorem num_01 (w : World) : Calls Tryd.prog 21 #[.string ⟨#[48, 49]⟩] w fun e w' => e = .returned (.bool false) ∧ Ext w w' := by
  go_enter Tryd.func21, Tryd.ntmps21
  go_wp2
  go_ret
  exact ⟨rfl, Ext.refl w⟩

set_option maxRecDepth 100000 in
set_option maxHeartbeats 800000 in
theorem num_0 (w : World) : Calls Tryd.prog 21 #[.string ⟨#[48]⟩] w fun e w' => e = .returned (.bool true) ∧ Ext w w' := by
  have h0 : (⟨#[48]⟩ : ByteArray)[0].toNat = 48 := by kernel_rfl
  go_enter Tryd.func21, Tryd.ntmps21
  go_wp2
  refine wp_loop_rounds 2 ?_
  rw [rounds_succ]
  go_wp2
  rw [rounds_succ]
  go_wp2
  go_ret
  exact ⟨rfl, Ext.refl w⟩

set_option maxRecDepth 100000 in
set_option maxHeartbeats 800000 in
theorem parse_0 (w : World) : Calls Tryd.prog 8 #[.string ⟨#[45, 48]⟩] w fun e w' => e = .returned (.tuple #[.agg #[.bool false, .slice none 0 0], .int .i64 2]) ∧ Ext w w' := by
  obtain ⟨W, hW, eW, _, r0, r1, f0, f1⟩ := res_new w 24
  go_enter Tryd.func8, Tryd.ntmps8
  go_wp2_with fail
  clear hW
  refine (cut_0 _).mono ?_
  rintro e w1 ⟨rfl, e1⟩
  go_wp2_with fail
  refine (num_0 _).mono ?_
  rintro e w2 ⟨rfl, e2⟩
  have eA := e1.trans e2
  have r02 := eA.cell r0
  have r12 := eA.cell r1
  have f02 := eA.frozen (lt_of_cell r0) f0
  have f12 := eA.frozen (lt_of_cell r1) f1
  clear r0 r1 f0 f1
  go_wp2
  exact bodyPost_ret (v := .tuple #[.agg #[.bool false, .slice none 0 0], .int .i64 2]) (by simp [results, Tryd.results8, go_sem, r02, r12]) rfl
    ⟨rfl, ((eW.trans eA).setCell (p := ⟨w.heap.size, 0, none⟩) (Nat.le_refl _) _).setCell (p := ⟨w.heap.size, 1, none⟩) (Nat.le_refl _) _⟩

set_option maxRecDepth 100000 in
set_option maxHeartbeats 800000 in
theorem parse_01 (w : World) : Calls Tryd.prog 8 #[.string ⟨#[48, 49]⟩] w fun e w' => e = .returned (.tuple #[.agg #[.bool false, .slice none 0 0], .int .i64 2]) ∧ Ext w w' := by
  obtain ⟨W, hW, eW, _, r0, r1, f0, f1⟩ := res_new w 24
  go_enter Tryd.func8, Tryd.ntmps8
  go_wp2_with fail
  clear hW
  refine (cut_01 _).mono ?_
  rintro e w1 ⟨rfl, e1⟩
  go_wp2_with fail
  refine (num_01 _).mono ?_
  rintro e w2 ⟨rfl, e2⟩
  have eA := e1.trans e2
  have r02 := eA.cell r0
  have r12 := eA.cell r1
  have f02 := eA.frozen (lt_of_cell r0) f0
  have f12 := eA.frozen (lt_of_cell r1) f1
  clear r0 r1 f0 f1
  go_wp2
  exact bodyPost_ret (v := .tuple #[.agg #[.bool false, .slice none 0 0], .int .i64 2]) (by simp [results, Tryd.results8, go_sem, r02, r12]) rfl
    ⟨rfl, ((eW.trans eA).setCell (p := ⟨w.heap.size, 0, none⟩) (Nat.le_refl _) _).setCell (p := ⟨w.heap.size, 1, none⟩) (Nat.le_refl _) _⟩

set_option maxHeartbeats 800000 in
theorem is_calls (w : World) (v : Value) (z n : Int) (h : IsInt w v z) (h1 : -9223372036854775808 ≤ n) (h2 : n ≤ 9223372036854775807) :
    Calls Tryd.prog 15 #[v, .int .i64 n] w fun e w' => e = .returned (.bool (decide (z = n))) ∧ Ext w w' := by
  have hI := h
  obtain ⟨ao, cap, s, m, rfl, k1, k2, k3, H4, H5, H6⟩ := h.open_
  obtain ⟨W, hW, eW, c0, c1⟩ := box1 w (.bool s) (.slice ao (limbs m).length cap) 24
  have HF := Lib.hid (rfromInt64_calls W.drew n h1 h2)
  have c0d : W.drew.cell? ⟨w.heap.size, 0, none⟩ = some (.bool s) := c0
  have c1d : W.drew.cell? ⟨w.heap.size, 1, none⟩ = some (.slice ao (limbs m).length cap) := c1
  clear h1 h2 h
  go_enter Tryd.func15, Tryd.ntmps15
  go_wp2_with fail
  clear hW
  go_region_held3 (fun w' => w'.cell? ⟨w.heap.size, 0, none⟩ = some (.bool s) ∧ w'.cell? ⟨w.heap.size, 1, none⟩ = some (.slice ao (limbs m).length cap))
    (first | with_reducible exact ⟨c0d, c1d⟩ | with_reducible exact ⟨c01, c11⟩ | with_reducible exact ⟨c02, c12⟩) ((first
      | (go_at_call 32; ((with_reducible refine HF.out.mono ?_)); rintro e w1 ⟨v1, rfl, hJ, e1⟩; have c01 := e1.of_drew.cell c0; have c11 := e1.of_drew.cell c1)
      | (go_at_call 11; refine (same_calls _ _ _ z n (hI.ext (eW.trans e1.of_drew)) hJ).mono ?_; rintro e w2 ⟨rfl, e2⟩; have c02 := e2.cell c01; have c12 := e2.cell c11)))
  go_wp2
  go_ret
  exact ⟨rfl, (eW.trans e1.of_drew).trans e2⟩

end Go.Proofs.YtmofkmdacfdejaaDoor
end

/- ---- Awake2 ---- -/
section
/-
  awake returns true.
-/
set_option maxRecDepth 100000
namespace Go.Proofs.YtmofkmdacfdejaaDoor
open Go.RowKit

theorem dm_7_2 {q r : Int} (h : DM (-7) 2 q r) : q = -4 ∧ r = 1 := by obtain ⟨h1, h2, _⟩ := h; omega
theorem dm_7_m2 {q r : Int} (h : DM 7 (-2) q r) : q = -4 ∧ r = -1 := by obtain ⟨h1, h2, _⟩ := h; omega
theorem sm_lit {z : Int} (h : z.natAbs < 1000000000) : Sm z := by
  unfold Sm; have := limbs_len_le (n := z.natAbs) (k := 1) (by omega); omega
theorem divOK_lit (m n : Nat) (hm : m < 1000000000) (hn : n < 1000000000) (h0 : 0 < n) : DivOK m n := by
  have l1 := limbs_len_le (n := m) (k := 1) (by omega)
  by_cases h : (limbs m).length < (limbs n).length
  · exact divOK_less m n (by omega) h
  · exact divOK_small m n h (by omega) (by omega)
theorem fi (w : World) (n : Int) (h1 : -1000000000 ≤ n) (h2 : n ≤ 1000000000) : Calls Tryd.prog 13 #[.int .i64 n] w (Ret (fun v w' => IsInt w' v n) w) := fromInt64_calls w n (by omega) (by omega)
theorem dm1 (w : World) (v1 v2 : Value) (h : IsInt w v1 (-7)) (k : IsInt w v2 2) :
    Calls Tryd.prog 12 #[v1, v2] w fun e w' => ∃ u1 u2, e = .returned (.tuple #[u1, u2, .int .i64 0]) ∧ IsInt w' u1 (-4) ∧ IsInt w' u2 1 ∧ Ext w w' :=
  (divMod_calls w v1 v2 (-7) 2 h k (sm_lit (by decide)) (sm_lit (by decide)) (by omega) (divOK_lit _ _ (by decide) (by decide) (by decide))).mono fun e w' ⟨u1, u2, q, r, he, h1, h2, h3, h4⟩ => by
    obtain ⟨rfl, rfl⟩ := dm_7_2 h3
    exact ⟨u1, u2, he, h1, h2, h4⟩
theorem dm2 (w : World) (v1 v2 : Value) (h : IsInt w v1 7) (k : IsInt w v2 (-2)) :
    Calls Tryd.prog 12 #[v1, v2] w fun e w' => ∃ u1 u2, e = .returned (.tuple #[u1, u2, .int .i64 0]) ∧ IsInt w' u1 (-4) ∧ IsInt w' u2 (-1) ∧ Ext w w' :=
  (divMod_calls w v1 v2 7 (-2) h k (sm_lit (by decide)) (sm_lit (by decide)) (by omega) (divOK_lit _ _ (by decide) (by decide) (by decide))).mono fun e w' ⟨u1, u2, q, r, he, h1, h2, h3, h4⟩ => by
    obtain ⟨rfl, rfl⟩ := dm_7_m2 h3
    exact ⟨u1, u2, he, h1, h2, h4⟩

theorem isInt_1e9 (w : World) : IsInt (w.alloc (.cells #[.int .u32 0, .int .u32 1] 38)) (.agg #[.bool false, .slice (some ⟨w.heap.size, 0, none⟩) 2 2]) 1000000000 := by
  have hl : limbs 1000000000 = [0, 1] := by
    rw [limbs_step (by omega), show 1000000000 % 1000000000 = 0 from rfl, show 1000000000 / 1000000000 = 1 from rfl, limbs_step (by omega), show 1 % 1000000000 = 1 from rfl, show 1 / 1000000000 = 0 from rfl, limbs_zero]
  have hn : (1000000000 : Int).natAbs = 1000000000 := rfl
  refine ⟨some ⟨w.heap.size, 0, none⟩, 2, ?_, ?_, by omega, ?_⟩
  · rw [hn, hl]; rfl
  · rw [hn, hl]; simp
  · rw [hn, hl]; exact (Blk.new w [0, 1]).cells
theorem gcd1 (w : World) (v1 v2 : Value) (h : IsInt w v1 (-12)) (k : IsInt w v2 18) : Calls Tryd.prog 16 #[v1, v2] w (Ret (fun v w' => IsInt w' v 6) w) :=
  gcd_small w v1 v2 (-12) 18 h k (sm_lit (by decide)) (sm_lit (by decide)) ⟨limbs_len_le (by decide), limbs_len_le (by decide)⟩
    (fun m n hn hmn => by
      refine divOK_lit m n ?_ ?_ hn
      · rcases hmn with ⟨rfl, _⟩ | ⟨rfl, _⟩ <;> decide
      · rcases hmn with ⟨_, rfl⟩ | ⟨_, rfl⟩ <;> decide)
theorem is_true (w : World) (v : Value) (n : Int) (h : IsInt w v n) (h1 : -1000000000 ≤ n) (h2 : n ≤ 1000000000) :
    Calls Tryd.prog 15 #[v, .int .i64 n] w fun e w' => e = .returned (.bool true) ∧ Ext w w' :=
  (is_calls w v n n h (by omega) (by omega)).mono fun _ _ ⟨he, hE⟩ => ⟨by rw [he, decide_eq_true rfl], hE⟩
theorem same_true (w : World) (v1 v2 : Value) (n : Int) (h : IsInt w v1 n) (k : IsInt w v2 n) :
    Calls Tryd.prog 11 #[v1, v2] w fun e w' => e = .returned (.bool true) ∧ Ext w w' :=
  (same_calls w v1 v2 n n h k).mono fun _ _ ⟨he, hE⟩ => ⟨by rw [he, decide_eq_true rfl], hE⟩

set_option maxRecDepth 100000 in
set_option maxHeartbeats 6400000 in
theorem awake_calls (w : World) : Calls Tryd.prog 4 #[] w fun e w' => e = .returned (.bool true) ∧ Ext w w' := by
  go_enter Tryd.func4, Tryd.ntmps4
  go_wp2_with fail
  refine (fi _ (-7) (by omega) (by omega)).mono ?_
  rintro e w1 ⟨a1, rfl, i1, e1⟩
  go_wp2_with fail
  refine (fi _ 2 (by omega) (by omega)).mono ?_
  rintro e w2 ⟨a2, rfl, i2, e2⟩
  go_wp2_with fail
  refine (dm1 _ _ _ (i1.ext e2) i2).mono ?_
  rintro e w3 ⟨q1, r1, rfl, jq1, jr1, e3⟩
  obtain ⟨ao1, cap1, s1, n1, rfl, _⟩ := jq1.open_
  obtain ⟨ao2, cap2, s2, n2, rfl, _⟩ := jr1.open_
  have E := (e1.trans e2).trans e3
  clear i1 i2 e1 e2 e3
  obtain ⟨W1, hW1, eW1, _, cq0, cq1, cr0, cr1⟩ := boxes2 w3 (.bool s1) (.slice ao1 (limbs n1).length cap1) (.bool s2) (.slice ao2 (limbs n2).length cap2) 24
  replace E := E.trans eW1
  have F1 := Lib.hid (And.intro (jq1.ext eW1) (And.intro (jr1.ext eW1) (And.intro cq0 (And.intro cq1 (And.intro cr0 cr1)))))
  clear jq1 jr1 cq0 cq1 cr0 cr1 eW1
  go_wp2_with fail
  clear hW1
  refine (fi _ 7 (by omega) (by omega)).mono ?_
  rintro e w4 ⟨a4, rfl, i4, e4⟩
  go_wp2_with fail
  refine (fi _ (-2) (by omega) (by omega)).mono ?_
  rintro e w5 ⟨a5, rfl, i5, e5⟩
  go_wp2_with fail
  refine (dm2 _ _ _ (i4.ext e5) i5).mono ?_
  rintro e w6 ⟨q2, r2, rfl, jq2, jr2, e6⟩
  obtain ⟨ao3, cap3, s3, n3, rfl, _⟩ := jq2.open_
  obtain ⟨ao4, cap4, s4, n4, rfl, _⟩ := jr2.open_
  have G1 := (e4.trans e5).trans e6
  clear i4 i5 e4 e5 e6
  obtain ⟨W2, hW2, eW2, _, cq0, cq1, cr0, cr1⟩ := boxes2 w6 (.bool s3) (.slice ao3 (limbs n3).length cap3) (.bool s4) (.slice ao4 (limbs n4).length cap4) 24
  replace G1 := G1.trans eW2
  have F2 := Lib.hid (And.intro (jq2.ext eW2) (And.intro (jr2.ext eW2) (And.intro cq0 (And.intro cq1 (And.intro cr0 cr1)))))
  clear jq2 jr2 cq0 cq1 cr0 cr1 eW2
  go_wp2_with fail
  clear hW2
  refine (fi _ 99 (by omega) (by omega)).mono ?_
  rintro e w7 ⟨a7, rfl, i7, e7⟩
  go_wp2_with fail
  refine (sqrt_99 _ _ i7).mono ?_
  rintro e w8 ⟨u8, rfl, ju, e8⟩
  obtain ⟨ao5, cap5, s5, n5, rfl, _⟩ := ju.open_
  have G2 := e7.trans e8
  clear i7 e7 e8
  obtain ⟨W3, hW3, eW3, cu0, cu1⟩ := box1 w8 (.bool s5) (.slice ao5 (limbs n5).length cap5) 24
  replace G2 := G2.trans eW3
  have F3 := Lib.hid (And.intro (ju.ext eW3) (And.intro cu0 cu1))
  clear ju cu0 cu1 eW3
  go_wp2_with fail
  clear hW3
  refine (parse_0 _).mono ?_
  rintro e w9 ⟨rfl, e9⟩
  go_wp2_with fail
  refine (parse_01 _).mono ?_
  rintro e w10 ⟨rfl, e10⟩
  have G3 := ((e9.trans ((Ext.refl w9).alloc (.cells #[.bool false, .slice none 0 0] 24))).trans e10).trans ((Ext.refl w10).alloc (.cells #[.bool false, .slice none 0 0] 24))
  clear e9 e10
  go_wp2_with fail
  refine (fi _ 1000000000 (by omega) (by omega)).mono ?_
  rintro e w11 ⟨a11, rfl, i11, e11⟩
  go_wp2_with fail
  refine (same_true _ _ _ 1000000000 (i11.ext ((Ext.refl w11).alloc _)) (isInt_1e9 w11)).mono ?_
  rintro e w12 ⟨rfl, e12⟩
  have G4 := (G3.trans e11).trans (((Ext.refl w11).alloc _).trans e12)
  clear G3 e11 e12 i11
  have H3 := F3.out
  have H2 := F2.out
  have H1 := F1.out
  have x3 := G4
  have x2 := G2.trans G4
  have x1 := G1.trans x2
  have JQ1 := Lib.hid (H1.1.ext x1)
  have JR1 := Lib.hid (H1.2.1.ext x1)
  have JQ2 := Lib.hid (H2.1.ext x2)
  have JR2 := Lib.hid (H2.2.1.ext x2)
  have JU := Lib.hid (H3.1.ext x3)
  have CQ1 := Lib.hid (And.intro (x1.cell H1.2.2.1) (x1.cell H1.2.2.2.1))
  have CR1 := Lib.hid (And.intro (x1.cell H1.2.2.2.2.1) (x1.cell H1.2.2.2.2.2))
  have CQ2 := Lib.hid (And.intro (x2.cell H2.2.2.1) (x2.cell H2.2.2.2.1))
  have CR2 := Lib.hid (And.intro (x2.cell H2.2.2.2.2.1) (x2.cell H2.2.2.2.2.2))
  have CU := Lib.hid (And.intro (x3.cell H3.2.1) (x3.cell H3.2.2))
  replace E := E.trans x1
  clear H1 H2 H3 x1 x2 x3 G1 G2 G4 F1 F2 F3
  obtain ⟨k0, k1⟩ := CQ1.out
  go_wp2_with fail
  clear k0 k1
  refine (is_true _ _ (-4) JQ1.out (by omega) (by omega)).mono ?_
  rintro e w13 ⟨rfl, y⟩
  obtain ⟨k0, k1⟩ := CR1.out
  replace k0 := y.cell k0
  replace k1 := y.cell k1
  go_wp2_with fail
  clear k0 k1
  refine (is_true _ _ 1 (JR1.out.ext y) (by omega) (by omega)).mono ?_
  rintro e w14 ⟨rfl, e14⟩
  replace y := y.trans e14
  clear e14
  obtain ⟨k0, k1⟩ := CQ2.out
  replace k0 := y.cell k0
  replace k1 := y.cell k1
  go_wp2_with fail
  clear k0 k1
  refine (is_true _ _ (-4) (JQ2.out.ext y) (by omega) (by omega)).mono ?_
  rintro e w15 ⟨rfl, e15⟩
  replace y := y.trans e15
  clear e15
  obtain ⟨k0, k1⟩ := CR2.out
  replace k0 := y.cell k0
  replace k1 := y.cell k1
  go_wp2_with fail
  clear k0 k1
  refine (is_true _ _ (-1) (JR2.out.ext y) (by omega) (by omega)).mono ?_
  rintro e w16 ⟨rfl, e16⟩
  replace y := y.trans e16
  clear e16
  obtain ⟨k0, k1⟩ := CU.out
  replace k0 := y.cell k0
  replace k1 := y.cell k1
  go_wp2_with fail
  clear k0 k1
  refine (is_true _ _ 9 (JU.out.ext y) (by omega) (by omega)).mono ?_
  rintro e w17 ⟨rfl, e17⟩
  replace y := y.trans e17
  clear e17
  go_wp2_with fail
  refine (fi _ (-12) (by omega) (by omega)).mono ?_
  rintro e w18 ⟨a18, rfl, i18, e18⟩
  go_wp2_with fail
  refine (fi _ 18 (by omega) (by omega)).mono ?_
  rintro e w19 ⟨a19, rfl, i19, e19⟩
  go_wp2_with fail
  refine (gcd1 _ _ _ (i18.ext e19) i19).mono ?_
  rintro e w20 ⟨a20, rfl, i20, e20⟩
  go_wp2_with fail
  refine (is_true _ _ 6 i20 (by omega) (by omega)).mono ?_
  rintro e w21 ⟨rfl, e21⟩
  go_wp2
  go_ret
  exact ⟨rfl, (E.trans y).trans (((e18.trans e19).trans e20).trans e21)⟩

end Go.Proofs.YtmofkmdacfdejaaDoor
end

/- ---- Small ---- -/
section
/-
  small and cp.
-/
set_option maxRecDepth 100000
namespace Go.Proofs.YtmofkmdacfdejaaDoor
open Go.RowKit

/-- Element k of a slice of structs. -/
def Item (w : World) (g k : Nat) (p : Bool × List Nat) : Prop := ∃ ao cap, w.cell? ⟨g, k * 2, none⟩ = some (.bool p.1) ∧ w.cell? ⟨g, k * 2 + 1, none⟩ = some (.slice ao p.2.length cap) ∧ p.2.length ≤ cap ∧ cap ≤ 9223372036854775807 ∧ Cells w ao p.2
def smB (p : Bool × List Nat) : Bool := decide (p.2.length ≤ 16) && okB p.1 p.2

theorem rsmall16 (w : World) (v : Value) (neg : Bool) (xs : List Nat) (h : Raw w v neg xs) :
    Calls Tryd.prog 17 #[v, .int .i64 16] w fun e w' => e = .returned (.bool (smB (neg, xs))) ∧ Ext w w' := rsmall_calls w v neg xs 16 h

set_option maxRecDepth 100000 in
set_option maxHeartbeats 1600000 in
theorem small_calls (w : World) (g : Nat) (L : List (Bool × List Nat)) (hL : L.length ≤ 1000) (h : ∀ k, k < L.length → Item w g k (L.getD k (false, []))) :
    Calls Tryd.prog 5 #[.slice (some ⟨g, 0, none⟩) L.length L.length] w fun e w' => e = .returned (.bool (L.all smB)) ∧ Ext w w' := by
  have hLI : (L.length : Int) ≤ 1000 := by omega
  clear hL
  have HH := Lib.hid h
  clear h
  go_enter Tryd.func5, Tryd.ntmps5
  go_wp2
  go_loopw [4, 7] (fun _ i wr => ∃ k : Nat, k ≤ L.length ∧ i = .int .i64 k ∧ Ext w wr ∧ Hid ((L.take k).all smB = true)) (fun _ i _ => L.length - (intOf i).toNat)
  case atStart => exact ⟨0, Nat.zero_le _, rfl, Ext.refl w, rfl⟩
  case round =>
    obtain ⟨k, hk, rfl, hE, HA⟩ := hrel
    by_cases hk2 : k < L.length
    · obtain ⟨ao, cap, c0, c1, k1, k2, k3⟩ := HH.out k hk2
      have HT : Hid ((L.take (k + 1)).all smB = smB (L.getD k (false, [])) ∧ L.all smB = (smB (L.getD k (false, [])) && (L.drop (k + 1)).all smB)) := by
        have e1 : L.take (k + 1) = L.take k ++ [L.getD k (false, [])] := by
          rw [List.take_succ_eq_append_getElem hk2]; simp [List.getD_eq_getElem?_getD, hk2]
        refine ⟨by rw [e1, List.all_append, HA.out]; simp, ?_⟩
        have e2 : L.all smB = ((L.take (k + 1)).all smB && (L.drop (k + 1)).all smB) := by rw [← List.all_append, List.take_append_drop]
        rw [e2, e1, List.all_append, HA.out]; simp
      replace c0 := hE.cell c0
      replace c1 := hE.cell c1
      replace k3 := k3.ext hE
      generalize L.getD k (false, []) = p at *
      obtain ⟨neg, xs⟩ := p
      have hR : Raw wr (.agg #[.bool neg, .slice ao xs.length cap]) neg xs := ⟨ao, cap, rfl, k1, k2, k3⟩
      obtain ⟨wo, rfl⟩ : ∃ wo : World, wo = wr := ⟨_, rfl⟩
      have HS := Lib.hid (rsmall16 _ _ neg xs (hR.ext ((Ext.refl wo).alloc (.cells #[.bool neg, .slice ao xs.length cap] 24))))
      cases hb : smB (neg, xs)
      · rw [hb] at HS HT
        have HT2 := Lib.hid HT.out.2
        clear hb HT
        go_wp2_with fail
        refine HS.out.mono ?_
        rintro e w1 ⟨rfl, e1⟩
        go_wp2
        go_ret
        exact ⟨ret_bool (by rw [HT2.out]; rfl), (hE.alloc _).trans e1⟩
      · rw [hb] at HS HT
        have HT2 := Lib.hid HT.out.1
        clear hb HT
        go_wp2_with fail
        refine HS.out.mono ?_
        rintro e w1 ⟨rfl, e1⟩
        go_wp2
        go_roundw
        case rel => exact ⟨k + 1, by omega, by go_num, (hE.alloc _).trans e1, HT2.out⟩
        case measure => simp [intOf]; omega
    · have HF : Hid (L.all smB = true) := by
        unfold Hid; have := HA.out; rwa [List.take_of_length_le (by omega)] at this
      go_wp2
      go_ret
      exact ⟨ret_bool HF.out.symm, hE⟩

/-- An append of a slice of uint32 to an empty slice of the call's own. -/
theorem step_append_run {P : Program} {ops : Array Oper} {o : Oper} {a : Act} {w : World} {K : Act → World → Prop} {Q : Exit → Act → World → Prop} {E : Prop} (hgd : o.guard = none) (s x : Operand) (t : TypeId)
    (ho : o.op = .call { callee := .builtin .append, args := #[s, x], argTypes := #[t, t] }) {vs vx v' : Value} {w' : World} (hs : a.eval s = vs) (hx : a.eval x = vx)
    (hrun : (Builtin.append_ #[t, t] o.type #[vs, vx]).run P w = .ok v' w') (h : K (a.put o.dst v') w') :
    if Region.wanted o (yielded ops a.tmps) = true then Oper.wp P o a w K Q else E := by
  have hw : Region.wanted o (yielded ops a.tmps) = true := by simp [Region.wanted, hgd]
  rw [if_pos hw]
  unfold Oper.wp
  simp [execOp, ho, resolve, invoke, builtin, hs, hx, hrun, Result.andThen]
  exact h
theorem run_append_nil {P : Program} {w : World} (base : Nat) (t ty e : TypeId) (i : TypeInfo) (size : Nat) (ht : P.underlying t = some (.slice e)) (hi : P.info? e = some i)
    (v : Value) (n : Nat) (xs : List Value) (hown : w.ownsRow base e size v n xs) (c : Nat) : (Builtin.append_ #[t, t] ty #[v, .slice none 0 c]).run P w = .ok v w := by
  rcases hown.2 with ⟨rfl, rfl⟩ | ⟨g, cap, cur, rfl, _, _, hnc, _⟩
  · simp [Builtin.append_, run_underlying ht, sizeOf, typeInfo, hi, Builtin.lenOf, Builtin.firstCells]
  · simp [Builtin.append_, run_underlying ht, sizeOf, typeInfo, hi, Builtin.lenOf, Builtin.firstCells, hnc, storeCells]
/-- What such an append leaves. -/
theorem run_append_new (w : World) (ty : TypeId) (ao : Option Addr) (xs : List Nat) (c : Nat) (lx : xs.length ≤ 1099511627776) (h : Cells w ao xs) :
    ∃ ao' cap w1, (Builtin.append_ #[22, 22] ty #[.slice (some ⟨w.heap.size, 0, none⟩) 0 0, .slice ao xs.length c]).run Tryd.prog (w.alloc (.cells #[] 38)) = .ok (.slice ao' xs.length cap) w1 ∧ xs.length ≤ cap ∧ cap ≤ 9223372036854775807 ∧ Ext w w1 ∧ Cells w1 ao' xs := by
  obtain ⟨i0, hi, hz0, hz1, hz2⟩ := info_parts info_u32
  have hown := World.ownsRow_made (base := w.heap.size) (e := 38) (size := 1) w #[] 0 (Nat.le_refl _) (by simp) (by simp)
  rcases ao with _ | a
  · obtain rfl : xs = [] := by
      rcases h with h | ⟨b, off, hh, _⟩
      · exact h
      · cases hh
    exact ⟨_, 0, _, run_append_nil (P := Tryd.prog) w.heap.size 22 ty 38 i0 1 Tryd.underlying22 hi _ 0 [] hown c, by simp, by omega, (Ext.refl w).alloc _, Cells.nil _ _⟩
  · have hnews : ∀ j u, (xs.map fun x => Value.int .u32 ((x : Nat) : Int))[j]? = some u → (w.alloc (.cells #[] 38)).cell? (a.add j) = some u := by
      intro j u hu
      refine ((Ext.refl w).alloc _).cell ?_
      rcases h with h | ⟨b, off, hh, hx⟩
      · subst h; simp at hu
      · injection hh with hh
        subst hh
        rw [List.getElem?_map] at hu
        obtain ⟨x, hx1, rfl⟩ := Option.map_eq_some_iff.1 hu
        have hj : j < xs.length := (List.getElem?_eq_some_iff.1 hx1).1
        have := hx j hj
        rw [List.getD_eq_getElem?_getD, hx1] at this
        by_cases h0 : j = 0
        · subst h0; simpa [Addr.add] using this
        · simpa [Addr.add, h0] using this
    obtain ⟨v', w1, hrun, hown1, hgrow, hnil⟩ := run_append_own (P := Tryd.prog) (w.alloc (.cells #[] 38)) w.heap.size 22 ty 38 i0 (.int .u32 0) 1 4 Tryd.underlying22 hi hz0 hz1 hz2 rfl (by decide) _ 0 [] hown a xs.length c (xs.map fun x => Value.int .u32 ((x : Nat) : Int)) (by simp) hnews
      (by intro u hu; obtain ⟨x, _, rfl⟩ := List.mem_map.1 hu; rfl) (by unfold maxLen; omega) (by omega) (by simp)
    rw [Nat.zero_add, List.nil_append] at hown1
    have hE : Ext w w1 := Below.grown ((Ext.refl w).alloc _) hgrow (by simp) (fun k hk => by simp [Value.ownBlock] at hk; omega)
    rcases hown1.2 with ⟨rfl, _⟩ | ⟨g, cap, cur, rfl, hg, _, hnc, hcm, _, _⟩
    · exact absurd (hnil.1 rfl).1 (by simp)
    · exact ⟨_, cap, w1, hrun, hnc, by unfold maxLen at hcm; omega, hE, (Blk.of_owns hown1).cells⟩

theorem fin_raw {w w2 : World} {neg b0 : Bool} {ao a0 : Option Addr} {xs : List Nat} {cap l0 k0 : Nat} {r : Nat} (x1 : xs.length ≤ cap) (x2 : cap ≤ 9223372036854775807) (x3 : Cells w2 ao xs)
    (c0 : w2.cell? ⟨r, 0, none⟩ = some (.bool b0)) (c1 : w2.cell? ⟨r, 1, none⟩ = some (.slice a0 l0 k0)) (hr : w.heap.size ≤ r) (e : Ext w w2) :
    Ret (fun v' w' => Raw w' v' neg xs) w (.returned (.agg #[.bool neg, .slice ao xs.length cap])) ((w2.setCell ⟨r, 0, none⟩ (.bool neg)).setCell ⟨r, 1, none⟩ (.slice ao xs.length cap)) := by
  have k1 : (w2.setCell ⟨r, 0, none⟩ (.bool neg)).cell? ⟨r, 1, none⟩ = some (.slice a0 l0 k0) := by
    rw [World.cell?_setCell_other _ _ _ _ (by simp)]; exact c1
  exact ⟨_, rfl, ⟨ao, cap, rfl, x1, x2, (x3.store c0 (by simp) _).store k1 (by simp) _⟩, (e.setCell (p := ⟨r, 0, none⟩) hr _).setCell (p := ⟨r, 1, none⟩) hr _⟩

set_option maxHeartbeats 800000 in
theorem cp_calls (w : World) (v : Value) (neg : Bool) (xs : List Nat) (h : Raw w v neg xs) (lx : xs.length ≤ 1048576) :
    Calls Tryd.prog 7 #[v] w (Ret (fun v' w' => Raw w' v' neg xs) w) := by
  obtain ⟨ao, cap, rfl, h1, h2, h3⟩ := h
  obtain ⟨W, hW, eW, c0, c1, r0, r1, f0, f1⟩ := boxes1r w (.bool neg) (.slice ao xs.length cap) 24
  obtain ⟨ao', cap', w1, hrun, x1, x2, e1, x3⟩ := run_append_new W.drew 22 ao xs cap (by omega) ((h3.ext eW).drew)
  have HRUN := Lib.hid hrun
  have c01 := e1.of_drew.cell c0
  have c11 := e1.of_drew.cell c1
  have r01 := e1.of_drew.cell r0
  have r11 := e1.of_drew.cell r1
  have f01 := e1.of_drew.frozen (lt_of_cell r0) f0
  have f11 := e1.of_drew.frozen (lt_of_cell r1) f1
  have c0d : W.drew.cell? ⟨w.heap.size, 0, none⟩ = some (.bool neg) := c0
  have c1d : W.drew.cell? ⟨w.heap.size, 1, none⟩ = some (.slice ao xs.length cap) := c1
  clear hrun
  go_enter Tryd.func7, Tryd.ntmps7
  go_wp2_with fail
  clear hW
  go_region_held3 (fun w' => w'.cell? ⟨w.heap.size, 0, none⟩ = some (.bool neg) ∧ w'.cell? ⟨w.heap.size, 1, none⟩ = some (.slice ao xs.length cap))
    (first | with_reducible exact ⟨c0d, c1d⟩ | with_reducible exact ⟨c01, c11⟩ | with_reducible exact ⟨keep_store c01 (by omega), keep_store c11 (by omega)⟩ | go_keep) ((refine step_append_run (by rfl) _ _ 22 (by rfl) (by rfl) (by rfl) HRUN.out ?_))
  go_wp2
  exact bodyPost_ret (v := .agg #[.bool neg, .slice ao' xs.length cap']) (by simp [results, Tryd.results7, go_sem, r01, r11]) rfl (fin_raw x1 x2 x3 r01 r11 (by omega) (eW.trans e1.of_drew))

end Go.Proofs.YtmofkmdacfdejaaDoor
end
