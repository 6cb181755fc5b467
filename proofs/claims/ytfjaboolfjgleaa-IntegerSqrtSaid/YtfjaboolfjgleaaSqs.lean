/-
  The square root of a number of at most 120 bits.
-/
import Derived.Test.YtfjaboolfjgleaaLens
import Derived.Test.YtfjaboolfjgleaaEstim
import Derived.Test.YtfjaboolfjgleaaNewt
namespace Go.Proofs.Ytfjaboolfjgleaa
open Go.RowKit

/-- The length of a number in two halves. -/
theorem len_two {n hi lo L : Nat} (h1 : hi = n / 18446744073709551616) (h2 : lo = n % 18446744073709551616) (h0 : 0 < n) (hn : n < 2 ^ 120) (hL : L = if hi = 0 then Lib.bitLen lo else 64 + Lib.bitLen hi) : n < 2 ^ L ∧ L ≤ 120 := by
  have key : n < 2 ^ L ∧ 2 ^ (L - 1) ≤ n := by
    by_cases hz : hi = 0
    · rw [if_pos hz] at hL
      have e : n = lo := by omega
      obtain ⟨b1, b2, b3⟩ := bitLen_bounds lo (by omega)
      rw [hL, e]
      exact ⟨b1, (b3 (by omega)).2⟩
    · rw [if_neg hz] at hL
      have hb : hi < 18446744073709551616 := by
        have : (2 : Nat) ^ 120 = 1329227995784915872903807060280344576 := by decide
        omega
      obtain ⟨b1, b2, b3⟩ := bitLen_bounds hi hb
      obtain ⟨b4, b5⟩ := b3 (by omega)
      have e1 : 2 ^ L = 18446744073709551616 * 2 ^ Lib.bitLen hi := by rw [hL, Nat.pow_add]
      have e2 : 2 ^ (L - 1) = 18446744073709551616 * 2 ^ (Lib.bitLen hi - 1) := by rw [hL, show 64 + Lib.bitLen hi - 1 = 64 + (Lib.bitLen hi - 1) by omega, Nat.pow_add]
      rw [e1, e2]
      generalize 2 ^ Lib.bitLen hi = A at *
      generalize 2 ^ (Lib.bitLen hi - 1) = B at *
      omega
  refine ⟨key.1, ?_⟩
  rcases Nat.lt_or_ge 120 L with h | h
  · have := Nat.pow_le_pow_right (n := 2) (by omega) (show 120 ≤ L - 1 by omega)
    omega
  · exact h
/-- The first root: greater than the root, and a power of 2. -/
theorem first_pow {n L k : Nat} (h : n < 2 ^ L) (hL : L ≤ 120) (hk : k = (L + 1) / 2) : n < 2 ^ k * 2 ^ k ∧ k ≤ 60 ∧ 0 < 2 ^ k ∧ 2 ^ k ≤ 1152921504606846976 := by
  have hk2 : k ≤ 60 := by omega
  refine ⟨?_, hk2, Nat.pow_pos (by omega), ?_⟩
  · rw [← Nat.pow_add]
    exact Nat.lt_of_lt_of_le h (Nat.pow_le_pow_right (by omega) (by omega))
  · have := Nat.pow_le_pow_right (n := 2) (by omega) hk2
    have e : (2 : Nat) ^ 60 = 1152921504606846976 := by decide
    omega
/-- In each step the upper half is less than the root, and the sum is no more than a word holds. -/
theorem root_step {n r : Nat} (hn : n < 2 ^ 120) (h0 : 0 < n) (hr : 0 < r) (hu : n < (r + 1) * (r + 1)) (hm : r ≤ 1152921504606846976) : n / 18446744073709551616 < r ∧ n / r ≤ r + 2 := by
  refine ⟨?_, newton_quo hr hu⟩
  have e : (2 : Nat) ^ 120 = 18446744073709551616 * 72057594037927936 := by decide
  rcases Nat.lt_or_ge (n / 18446744073709551616) r with h | h
  · exact h
  · exfalso
    have h1 : n / 18446744073709551616 < 72057594037927936 := by omega
    have h2 : r + 1 ≤ 72057594037927936 := by omega
    have h3 : (r + 1) * (r + 1) ≤ 72057594037927936 * (r + 1) := Nat.mul_le_mul_right _ h2
    omega

set_option maxRecDepth 100000 in
set_option maxHeartbeats 800000 in
theorem sqrtSmall_calls (w : World) (n hi lo r : Nat) (h1 : hi = n / 18446744073709551616) (h2 : lo = n % 18446744073709551616) (hn : n < 2 ^ 120) (hr : IsSq n r) :
    Calls Try.prog 75 #[.int .u64 (hi : Int), .int .u64 (lo : Int)] w fun e w' => e = .returned (.int .u64 (r : Int)) ∧ Ext w w' := by
  rcases Nat.eq_zero_or_pos n with h0 | h0
  · subst h0
    obtain rfl : hi = 0 := by omega
    obtain rfl : lo = 0 := by omega
    obtain rfl : r = 0 := by
      have := hr.1
      rcases Nat.eq_zero_or_pos r with h | h
      · exact h
      · have := Nat.mul_pos h h; omega
    clear h1 h2 hn hr
    go_enter Try.func75, Try.ntmps75
    go_wp2
    go_ret
    exact ⟨ret_int rfl, Ext.refl w⟩
  · obtain ⟨L, hL⟩ : ∃ L, L = if hi = 0 then Lib.bitLen lo else 64 + Lib.bitLen hi := ⟨_, rfl⟩
    have HLL := len_two h1 h2 h0 hn hL
    have HL := Lib.hid HLL
    have HH := Lib.hid (And.intro h1 (And.intro h2 (And.intro h0 (And.intro hn hr))))
    have hlo : lo < 18446744073709551616 := by omega
    have hhi : hi < 18446744073709551616 := by
      have : (2 : Nat) ^ 120 = 1329227995784915872903807060280344576 := by decide
      omega
    have hguard : hi = 0 → ((lo : Int) == 0) = false := by intro h; rw [beq_eq_false_iff_ne]; omega
    have HGd := Lib.hid hguard
    have HLo := Lib.hid (len64_calls w lo _ hlo rfl)
    have HHi := Lib.hid (len64_calls w hi _ hhi rfl)
    have HLe := Lib.hid hL
    clear h1 h2 h0 hn hr hlo hhi hguard hL HLL
    go_enter Try.func75, Try.ntmps75
    go_upto_region 1 with fail
    go_cut [15] (fun p wx => p = .bool false ∧ w = wx)
    case first =>
      by_cases hz : hi = 0
      · have hg := HGd.out hz
        subst hz
        go_wp2_with fail
        go_meet
        exact ⟨rfl, rfl⟩
      · have hg : ((hi : Int) == 0) = false := by rw [beq_eq_false_iff_ne]; omega
        go_wp2_with fail
        go_meet
        exact ⟨rfl, rfl⟩
    case rest =>
      obtain ⟨rfl, rfl⟩ := hcut
      go_wp2_with fail
      refine HLo.out.mono ?_
      rintro e w1 ⟨rfl, rfl⟩
      go_upto_if 19 with fail
      go_cut [5] (fun p wx => p = .int .i64 (L : Int) ∧ w = wx)
      case first =>
        by_cases hz : hi = 0
        · have hLz := Lib.hid (show L = Lib.bitLen lo by rw [HLe.out, if_pos hz])
          subst hz
          go_wp2_with fail
          go_meet
          exact ⟨by rw [hLz.out], rfl⟩
        · have hLz := Lib.hid (show L = 64 + Lib.bitLen hi by rw [HLe.out, if_neg hz])
          have hg : ((hi : Int) == 0) = false := by rw [beq_eq_false_iff_ne]; omega
          have hg2 : ((hi : Int) != 0) = true := by rw [bne_iff_ne]; omega
          have hLI : (64 : Int) + (Lib.bitLen hi : Int) = (L : Int) := by rw [hLz.out]; omega
          have hLb : L ≤ 120 := HL.out.2
          go_wp2_with fail
          refine HHi.out.mono ?_
          rintro e w1 ⟨rfl, rfl⟩
          go_wp2_with fail
          go_meet
          exact ⟨rfl, rfl⟩
      case rest =>
        obtain ⟨rfl, rfl⟩ := hcut
        have hLb : L ≤ 120 := HL.out.2
        obtain ⟨k, hk⟩ : ∃ k, k = (L + 1) / 2 := ⟨_, rfl⟩
        have hkI : ((L : Int) + 1).tdiv 2 = (k : Int) := by rw [Int.tdiv_eq_ediv_of_nonneg (by omega)]; omega
        have HK := Lib.hid (first_pow HL.out.1 HL.out.2 hk)
        have hk60 := HK.out.2.1
        clear hk
        have hpw : IntKind.u64.wrap ((2 : Int) ^ k) = ((2 ^ k : Nat) : Int) := by
          have e : ((2 : Int) ^ k) = ((2 ^ k : Nat) : Int) := by rw [Int.natCast_pow]; rfl
          rw [e, IntKind.wrap_u64]
          have hP := HK.out.2.2.2
          have hP2 := HK.out.2.2.1
          generalize 2 ^ k = P at hP hP2 ⊢
          omega
        go_wp2_with fail
        have HK2 := Lib.hid HK.out.2.2
        obtain ⟨p0, hp0⟩ : ∃ p0, p0 = 2 ^ k := ⟨_, rfl⟩
        have hpI : (2 : Int) ^ k = (p0 : Int) := by rw [hp0, Int.natCast_pow]; rfl
        rw [← hp0] at HK2
        rw [hpI]
        have HN : Hid (n < p0 * p0) := by rw [hp0]; exact HK.out.1
        clear hp0 hpI hpw HK hkI hk60 hLb HL HGd HLo HHi HLe
        go_loopw [6] (fun x wr => ∃ q : Nat, x = .int .u64 q ∧ Hid (0 < q ∧ n < (q + 1) * (q + 1) ∧ q ≤ 1152921504606846976) ∧ Ext w wr) (fun x _ => (intOf x).toNat)
        case atStart => exact ⟨p0, rfl, ⟨HK2.out.1, lt_next_sq HN.out, HK2.out.2⟩, Ext.refl w⟩
        case round =>
          obtain ⟨q, rfl, HQ, hE⟩ := hrel
          have hst := root_step HH.out.2.2.2.1 HH.out.2.2.1 HQ.out.1 HQ.out.2.1 HQ.out.2.2
          have hdv := div64_any wr hi lo q (by rw [HH.out.1]; exact hst.1) (by have := HH.out.2.1; omega) (by have := HQ.out.2.2; omega)
          have hval : hi * 18446744073709551616 + lo = n := by have := HH.out.1; have := HH.out.2.1; omega
          rw [hval] at hdv
          obtain ⟨t, ht⟩ : ∃ t, t = n / q := ⟨_, rfl⟩
          rw [← ht] at hdv hst
          obtain ⟨u, hu⟩ : ∃ u, u = n % q := ⟨_, rfl⟩
          rw [← hu] at hdv
          have HDV := Lib.hid hdv
          obtain ⟨m, hm⟩ : ∃ m, m = (q + t) / 2 := ⟨_, rfl⟩
          have hmI : ((q : Int) + (t : Int)).tdiv 2 = (m : Int) := by rw [Int.tdiv_eq_ediv_of_nonneg (by omega)]; omega
          have HM := Lib.hid (And.intro hm ht)
          have hs : (q : Int) + (t : Int) ≤ 3000000000000000000 := by have := HQ.out.2.2; have := hst.2; omega
          clear hdv hval ht hu hm
          have hmb : m ≤ 3000000000000000000 := by have := HM.out.1; omega
          by_cases hge : q ≤ m
          · have hgeI : (q : Int) ≤ (m : Int) := by omega
            have HR : Hid (q = r) := by
              have := newton_stop (n := n) HQ.out.1 HQ.out.2.1 (by rw [← HM.out.2, ← HM.out.1]; exact hge)
              exact this.unique HH.out.2.2.2.2
            clear hge hst
            go_wp2_with fail
            refine HDV.out.mono ?_
            rintro e w1 ⟨rfl, e1⟩
            go_wp2_with fail
            go_ret
            exact ⟨ret_int (by rw [HR.out]), hE.trans e1⟩
          · have hgeI : ¬ (q : Int) ≤ (m : Int) := by omega
            have HX := Lib.hid hge
            clear hge hst
            go_wp2_with fail
            refine HDV.out.mono ?_
            rintro e w1 ⟨rfl, e1⟩
            go_wp2_with fail
            go_roundw
            case rel => exact ⟨m, rfl, ⟨by rw [HM.out.1, HM.out.2]; exact newton_pos HQ.out.1 HH.out.2.2.1, by rw [HM.out.1, HM.out.2]; exact newton_next HQ.out.1, by have := HX.out; have := HQ.out.2.2; omega⟩, hE.trans e1⟩
            case measure => have := HX.out; simp [intOf]; omega

end Go.Proofs.Ytfjaboolfjgleaa
