/-
  math/bits.Div64 for every divisor greater than the upper half.
-/
import Derived.Test.YtfjaboolfjgleaaLens
import Derived.Laws.BitsAllLaws
import Derived.Deep.CutBlock
import Derived.Deep.DeepCutAuto
namespace Go.Proofs.Ytfjaboolfjgleaa
open Go.RowKit

/-- The numbers of Div64 ahead of its first loop. -/
structure D64 (hi lo y s Y a b u v v1 v0 : Nat) : Prop where
  hs : s = 64 - Lib.bitLen y
  hY : Y = y * 2 ^ s
  ha : a = Y / 4294967296
  hb : b = Y % 4294967296
  hu : u = hi * 2 ^ s + lo / 2 ^ (64 - s)
  hv : v = lo * 2 ^ s % 18446744073709551616
  hv1 : v1 = v / 4294967296
  hv0 : v0 = v % 4294967296
theorem wrapMod (z : Int) (n : Nat) (h : z % 18446744073709551616 = n) : IntKind.u64.wrap z = (n : Int) := by rw [IntKind.wrap_u64]; exact h
section
variable {hi lo y s Y a b u v v1 v0 : Nat}
theorem D64.shY (D : D64 hi lo y s Y a b u v v1 v0) (h0 : 0 < y) (hy : y < 18446744073709551616) : IntKind.u64.wrap ((y : Int) * 2 ^ s) = (Y : Int) := by
  have := (upper_bit y h0 hy).1
  rw [← D.hs, ← D.hY] at this
  refine wrapMod _ _ ?_
  have e : (y : Int) * 2 ^ s = (Y : Int) := by rw [D.hY]; simp
  omega
theorem D64.start (D : D64 hi lo y s Y a b u v v1 v0) (hhi : hi < y) (hlo : lo < 18446744073709551616) (hy : y < 18446744073709551616) :
    DStart u v1 Y a b ∧ Y < 18446744073709551616 ∧ v0 < 4294967296 ∧ u < 18446744073709551616 := by
  have h1 := upper_bit y (by omega) hy
  rw [← D.hs, ← D.hY] at h1
  have h2 := moved (hi := hi) (lo := lo) (y := y) (s := s) (by have := D.hs; omega) hlo hhi
  rw [← D.hu, ← D.hY] at h2
  have h3 := D.hv
  have := D.ha
  have := D.hb
  have := D.hv1
  have := D.hv0
  exact ⟨⟨by omega, by omega, by omega, by omega, h2.2.1, by omega⟩, h1.1, by omega, by omega⟩
theorem D64.shU (D : D64 hi lo y s Y a b u v v1 v0) (hhi : hi < y) (hlo : lo < 18446744073709551616) (hy : y < 18446744073709551616) :
    ∃ t l H : Nat, (64 - (s : Int)) = (t : Int) ∧ (lo : Int) / 2 ^ t = (l : Int) ∧ IntKind.u64.wrap ((hi : Int) * 2 ^ s) = (H : Int) ∧ bits .or .u64 (H : Int) (l : Int) = (u : Int) ∧ t ≤ 64 := by
  have h1 := upper_bit y (by omega) hy
  rw [← D.hs, ← D.hY] at h1
  have h2 := moved (hi := hi) (lo := lo) (y := y) (s := s) (by have := D.hs; omega) hlo hhi
  rw [← D.hu, ← D.hY] at h2
  refine ⟨64 - s, lo / 2 ^ (64 - s), hi * 2 ^ s, by have := D.hs; omega, by simp, ?_, ?_, by omega⟩
  · refine wrapMod _ _ ?_
    have e : (hi : Int) * 2 ^ s = ((hi * 2 ^ s : Nat) : Int) := by simp
    have := D.hu
    have h3 := h2.2.1
    rw [e]
    generalize hi * 2 ^ s = p at *
    generalize lo / 2 ^ (64 - s) = k at *
    omega
  · have h4 := D.hu
    have h3 := h2.2.1
    have h5 := or_move (x := hi) h2.2.2
    rw [← h4] at h5
    generalize hi * 2 ^ s = p at *
    generalize lo / 2 ^ (64 - s) = k at *
    rw [u64_or_nat _ _ (by omega) (by omega), h5]
theorem D64.shV (D : D64 hi lo y s Y a b u v v1 v0) : IntKind.u64.wrap ((lo : Int) * 2 ^ s) = (v : Int) ∧ (v : Int) / 4294967296 = (v1 : Int) ∧ bits .and .u64 (v : Int) 4294967295 = (v0 : Int) := by
  have h := D.hv
  refine ⟨wrapMod _ _ ?_, ?_, ?_⟩
  · have e : (lo : Int) * 2 ^ s = ((lo * 2 ^ s : Nat) : Int) := by simp
    rw [e]; omega
  · have := D.hv1; omega
  · rw [Go.Proofs.Mul64.maskN _ (by omega), ← D.hv0]
theorem D64.shY2 (D : D64 hi lo y s Y a b u v v1 v0) (hY : Y < 18446744073709551616) : (Y : Int) / 4294967296 = (a : Int) ∧ bits .and .u64 (Y : Int) 4294967295 = (b : Int) := by
  refine ⟨?_, ?_⟩
  · have := D.ha; omega
  · rw [Go.Proofs.Mul64.maskN _ hY, ← D.hb]
theorem DStart.second {u u1 R v0 : Nat} (h : DStart u u1 Y a b) (hR : R = (u * 4294967296 + u1) % Y) (hv : v0 < 4294967296) : DStart R v0 Y a b := by
  have := Nat.mod_lt (u * 4294967296 + u1) h.pos
  obtain ⟨h1, h2, h3, h4, h5, h6⟩ := h
  exact ⟨h1, h2, h3, h4, by omega, hv⟩
theorem DStart.rests {u u1 Q R : Nat} (h : DStart u u1 Y a b) (hY : Y < 18446744073709551616) (hQ : Q = (u * 4294967296 + u1) / Y) (hR : R = (u * 4294967296 + u1) % Y) :
    ∃ C1 C2 C3 : Nat, IntKind.u64.wrap ((u : Int) * 4294967296) = (C1 : Int) ∧ IntKind.u64.wrap ((C1 : Int) + (u1 : Int)) = (C2 : Int) ∧ IntKind.u64.wrap ((Q : Int) * (Y : Int)) = (C3 : Int) ∧ IntKind.u64.wrap ((C2 : Int) - (C3 : Int)) = (R : Int) := by
  have e := dstep_rest h hY hQ hR
  refine ⟨u * 4294967296 % 18446744073709551616, (u * 4294967296 % 18446744073709551616 + u1) % 18446744073709551616, Q * Y % 18446744073709551616, wrapMod _ _ (by omega), wrapMod _ _ (by omega), wrapMod _ _ ?_, wrapMod _ _ ?_⟩
  · have e2 : (Q : Int) * (Y : Int) = ((Q * Y : Nat) : Int) := by simp
    rw [e2]; omega
  · generalize Q * Y = Z at *
    omega
theorem DStart.quos {u u1 : Nat} (h : DStart u u1 Y a b) (hY : Y < 18446744073709551616) :
    ∃ q r P : Nat, IntKind.u64.wrap ((u : Int) / (a : Int)) = (q : Int) ∧ (q : Int) * (a : Int) = (P : Int) ∧ (u : Int) - (P : Int) = (r : Int) ∧ (P : Int) ≤ (u : Int) ∧ DInv u u1 Y a q r := by
  have hi := h.init
  have h1 := hi.1
  refine ⟨u / a, u % a, u / a * a, wrap_quo u a _ (by have := h.2.2.2.2.1; omega) rfl, by simp, ?_, ?_, hi⟩
  · generalize u / a * a = x at *
    omega
  · generalize u / a * a = x at *
    omega
theorem D64.result {Q1 R1 Q0 R0 : Nat} (D : D64 hi lo y s Y a b u v v1 v0) (hhi : hi < y) (hlo : lo < 18446744073709551616) (hy : y < 18446744073709551616) (h1 : Q1 = (u * 4294967296 + v1) / Y) (h2 : R1 = (u * 4294967296 + v1) % Y)
    (h3 : Q0 = (R1 * 4294967296 + v0) / Y) (h4 : R0 = (R1 * 4294967296 + v0) % Y) :
    (hi * 18446744073709551616 + lo) / y = Q1 * 4294967296 + Q0 ∧ (R0 : Int) / 2 ^ s = (((hi * 18446744073709551616 + lo) % y : Nat) : Int) := by
  have hs := D.start hhi hlo hy
  have h5 := moved (hi := hi) (lo := lo) (y := y) (s := s) (by have := D.hs; omega) hlo hhi
  have h6 := two_digits hs.1.pos h1 h2 h3 h4
  have h7 := moved_back (y := y) (s := s) (hi * 18446744073709551616 + lo)
  have e : (u * 4294967296 + v1) * 4294967296 + v0 = (hi * 18446744073709551616 + lo) * 2 ^ s := by
    rw [h5.1, ← D.hu, ← D.hv]
    have := D.hv1
    have := D.hv0
    omega
  rw [e, D.hY] at h6
  rw [← h7.1, ← h7.2, h6.1, h6.2]
  exact ⟨rfl, by simp⟩
end

set_option maxRecDepth 100000 in
set_option maxHeartbeats 1600000 in
theorem div64_calls (w : World) (hi lo y : Nat) (h0 : 0 < hi) (hhi : hi < y) (hlo : lo < 18446744073709551616) (hy : y < 18446744073709551616) :
    Calls Try.prog 84 #[.int .u64 (hi : Int), .int .u64 (lo : Int), .int .u64 (y : Int)] w fun e w' =>
      e = .returned (.tuple #[.int .u64 (((hi * 18446744073709551616 + lo) / y : Nat) : Int), .int .u64 (((hi * 18446744073709551616 + lo) % y : Nat) : Int)]) ∧ w = w' := by
  obtain ⟨s, hs⟩ : ∃ s, s = 64 - Lib.bitLen y := ⟨_, rfl⟩
  obtain ⟨Y, hY⟩ : ∃ Y, Y = y * 2 ^ s := ⟨_, rfl⟩
  obtain ⟨a, ha⟩ : ∃ a, a = Y / 4294967296 := ⟨_, rfl⟩
  obtain ⟨b, hb⟩ : ∃ b, b = Y % 4294967296 := ⟨_, rfl⟩
  obtain ⟨u, hu⟩ : ∃ u, u = hi * 2 ^ s + lo / 2 ^ (64 - s) := ⟨_, rfl⟩
  obtain ⟨v, hv⟩ : ∃ v, v = lo * 2 ^ s % 18446744073709551616 := ⟨_, rfl⟩
  obtain ⟨v1, hv1⟩ : ∃ v1, v1 = v / 4294967296 := ⟨_, rfl⟩
  obtain ⟨v0, hv0⟩ : ∃ v0, v0 = v % 4294967296 := ⟨_, rfl⟩
  have D : D64 hi lo y s Y a b u v v1 v0 := ⟨hs, hY, ha, hb, hu, hv, hv1, hv0⟩
  obtain ⟨DS, hYb, hv0b, hub⟩ := D.start hhi hlo hy
  have c1 : ((y : Int) == 0) = false := by rw [beq_eq_false_iff_ne]; omega
  have c2 : ¬ ((y : Int) ≤ (hi : Int)) := by omega
  have c3 : ((hi : Int) == 0) = false := by rw [beq_eq_false_iff_ne]; omega
  have hs64 : (s : Int) ≤ 64 := by omega
  have HLZ := Lib.hid (fun W => lz64_calls W y s hy hs)
  have HSY := Lib.hid (And.intro (D.shY (by omega) hy) (D.shY2 hYb))
  have HSU := Lib.hid (D.shU hhi hlo hy)
  have HSV := Lib.hid D.shV
  obtain ⟨q, hq⟩ : ∃ q, q = u / a := ⟨_, rfl⟩
  obtain ⟨r, hr⟩ : ∃ r, r = u % a := ⟨_, rfl⟩
  obtain ⟨P, hP⟩ : ∃ P, P = q * a := ⟨_, rfl⟩
  have HI := DS.init
  rw [← hq, ← hr] at HI
  have hPu : P + r = u := by rw [hP]; exact HI.1
  have HQ := Lib.hid (And.intro (wrap_quo u a q (by omega) hq) (show (q : Int) * (a : Int) = (P : Int) by rw [hP]; simp))
  have HPU := Lib.hid hPu
  have HH := Lib.hid (And.intro h0 (And.intro hhi (And.intro hlo hy)))
  have HD := Lib.hid D
  have HDS := Lib.hid DS
  obtain ⟨Q1, hQ1⟩ : ∃ Q1, Q1 = (u * 4294967296 + v1) / Y := ⟨_, rfl⟩
  obtain ⟨R1, hR1⟩ : ∃ R1, R1 = (u * 4294967296 + v1) % Y := ⟨_, rfl⟩
  obtain ⟨Q0, hQ0⟩ : ∃ Q0, Q0 = (R1 * 4294967296 + v0) / Y := ⟨_, rfl⟩
  obtain ⟨R0, hR0⟩ : ∃ R0, R0 = (R1 * 4294967296 + v0) % Y := ⟨_, rfl⟩
  have DS2 := DS.second hR1 hv0b
  have HDS2 := Lib.hid DS2
  have HB2 := Lib.hid (DS2.quos hYb)
  have HA1 := Lib.hid (DS.rests hYb hQ1 hR1)
  have HA2 := Lib.hid (DS2.rests hYb hQ0 hR0)
  have HQ1 := Lib.hid hQ1
  have HQ0 := Lib.hid hQ0
  have HRes := Lib.hid (D.result hhi hlo hy hQ1 hR1 hQ0 hR0)
  have hQ1w : (Q1 : Int) ≤ 4294967295 := by have := DS.lt; omega
  have hQ0w : (Q0 : Int) ≤ 4294967295 := by have := DS2.lt; omega
  have hv0I : (v0 : Int) ≤ 4294967295 := by omega
  have HR1 := Lib.hid (show R1 < Y by rw [hR1]; exact Nat.mod_lt _ DS.pos)
  have HYb := Lib.hid hYb
  have HIn := Lib.hid HI
  have ha0 : ¬ a = 0 := by have := DS.2.2.1; omega
  have hubI : (u : Int) ≤ 18446744073709551615 := by omega
  have hvI : (v1 : Int) ≤ 4294967295 := by have := DS.2.2.2.2.2; omega
  have haI : (a : Int) ≤ 4294967295 := by have := DS.2.2.2.1; omega
  have hbI : (b : Int) ≤ 4294967295 := by have := DS.2.1; omega
  clear D DS DS2 HI hQ1 hR1 hQ0 hR0 hs hY ha hb hu hv hv1 hv0 h0 hhi hlo hy hYb hv0b hub hq hr hP hPu
  go_enter Try.func84, Try.ntmps84
  go_wp2_with fail
  refine (HLZ.out _).mono ?_
  rintro e w' ⟨rfl, rfl⟩
  clear c1 c2 c3
  obtain ⟨f1, f2, f3⟩ := HSY.out
  obtain ⟨t, l, H, f4, f5, f6, f7, f8⟩ := HSU.out
  obtain ⟨f9, f10, f11⟩ := HSV.out
  have f8I : (t : Int) ≤ 64 := by omega
  go_upto_region 15 with fail
  clear f1 f2 f3 f4 f5 f6 f7 f8 f9 f10 f11 f8I
  obtain ⟨g1, g2⟩ := HQ.out
  have hPI : (P : Int) ≤ (u : Int) := by have := HPU.out; omega
  have g3 : (u : Int) - (P : Int) = (r : Int) := by have := HPU.out; omega
  go_upto_block 0 with fail
  clear g1 g2 g3 hPI
  go_cut [15] (fun sq wx => sq = .int .u64 (Q1 : Int) ∧ w = wx)
  case first =>
    go_wp2_with fail
    go_loop [15, 16] (fun sq sr => ∃ q r : Nat, sq = .int .u64 (q : Int) ∧ sr = .int .u64 (r : Int) ∧ DInv u v1 Y a q r) (fun sq _ => (intOf sq).toNat)
    case atStart => exact ⟨q, r, rfl, rfl, HIn.out⟩
    case round =>
      obtain ⟨q, r, rfl, rfl, I⟩ := hrel
      have HI := Lib.hid I
      obtain ⟨I1, I2, I3, I4⟩ := I
      have qI : (q : Int) ≤ 4294967297 := by omega
      have rI : (r : Int) < 4294967296 := by omega
      by_cases hlt : (u * 4294967296 + v1) / Y < q
      · obtain ⟨d1, d2, d3, d4, d5⟩ := DInv.down HDS.out HI.out hlt
        have hbig := (DInv.test (u1 := v1) HDS.out I1).2 hlt
        obtain ⟨q1, hq1⟩ : ∃ q1, q1 = q - 1 := ⟨_, rfl⟩
        obtain ⟨r1, hr1⟩ : ∃ r1, r1 = r + a := ⟨_, rfl⟩
        have q1I : (q : Int) - 1 = (q1 : Int) := by omega
        have r1I : (r : Int) + (a : Int) = (r1 : Int) := by omega
        have r1w : (r1 : Int) ≤ 8589934591 := by omega
        rw [← hq1, ← hr1] at d2
        rw [← hq1] at d3 d4
        have q0I : (1 : Int) ≤ (q : Int) := by omega
        have HN := Lib.hid (And.intro d2 (And.intro d3 d4))
        have HL := Lib.hid (show q1 < q by omega)
        clear I1 I2 hlt d1 d2 d3 d4 d5 hq1 hr1
        by_cases hq : 4294967296 ≤ q
        · have hqI : (4294967296 : Int) ≤ (q : Int) := by omega
          clear hq hbig
          by_cases hr : 4294967296 ≤ r1
          · have hrI : (4294967296 : Int) ≤ (r1 : Int) := by omega
            have HE := Lib.hid (DInv.far HDS.out HN.out.1 HN.out.2.1 hr HN.out.2.2)
            clear hr
            go_wp2
            go_meet
            exact ⟨by rw [HQ1.out, ← HE.out], rfl⟩
          · have hrI : ¬ (4294967296 : Int) ≤ (r1 : Int) := by omega
            have HR := Lib.hid (show r1 < 4294967296 by omega)
            clear hr
            go_wp2
            go_round
            case rel => exact ⟨q1, r1, rfl, rfl, HN.out.1, HN.out.2.1, HR.out, by have := HN.out.2.2; omega⟩
            case measure => have := HL.out; simp [intOf]; omega
        · have hqI : ¬ (4294967296 : Int) ≤ (q : Int) := by omega
          obtain ⟨P, hP⟩ : ∃ P, P = q * b := ⟨_, rfl⟩
          rw [← hP] at hbig
          have hPI : (q : Int) * (b : Int) = (P : Int) := by rw [hP]; simp
          have hPw : (P : Int) ≤ 18446744073709551615 := by
            have : q * b ≤ 4294967295 * 4294967295 := Nat.mul_le_mul (by omega) (by omega)
            omega
          have hbigI : 4294967296 * (r : Int) + (v1 : Int) < (P : Int) := by omega
          clear hq hbig hP
          by_cases hr : 4294967296 ≤ r1
          · have hrI : (4294967296 : Int) ≤ (r1 : Int) := by omega
            have HE := Lib.hid (DInv.far HDS.out HN.out.1 HN.out.2.1 hr HN.out.2.2)
            clear hr
            go_wp2
            go_meet
            exact ⟨by rw [HQ1.out, ← HE.out], rfl⟩
          · have hrI : ¬ (4294967296 : Int) ≤ (r1 : Int) := by omega
            have HR := Lib.hid (show r1 < 4294967296 by omega)
            clear hr
            go_wp2
            go_round
            case rel => exact ⟨q1, r1, rfl, rfl, HN.out.1, HN.out.2.1, HR.out, by have := HN.out.2.2; omega⟩
            case measure => have := HL.out; simp [intOf]; omega
      · have HE := Lib.hid (DInv.stop HI.out hlt)
        have hq : q < 4294967296 := by have := HDS.out.lt; omega
        have hqI : ¬ (4294967296 : Int) ≤ (q : Int) := by omega
        have hsm := mt (DInv.test (u1 := v1) HDS.out I1).1 hlt
        obtain ⟨P, hP⟩ : ∃ P, P = q * b := ⟨_, rfl⟩
        rw [← hP] at hsm
        have hPI : (q : Int) * (b : Int) = (P : Int) := by rw [hP]; simp
        have hPw : (P : Int) ≤ 18446744073709551615 := by
          have : q * b ≤ 4294967295 * 4294967295 := Nat.mul_le_mul (by omega) (by omega)
          omega
        have hsmI : ¬ 4294967296 * (r : Int) + (v1 : Int) < (P : Int) := by omega
        clear hq hlt hP I1 I2 hsm
        go_wp2
        go_meet
        exact ⟨by rw [HQ1.out, ← HE.out], rfl⟩
  case rest =>
    obtain ⟨rfl, rfl⟩ := hcut
    obtain ⟨C1, C2, C3, f1, f2, f3, f4⟩ := HA1.out
    obtain ⟨q, r, P, f5, f6, f7, f8, f9⟩ := HB2.out
    have HIn2 := Lib.hid f9
    have hR1w : (R1 : Int) ≤ 18446744073709551615 := by have := HR1.out; have := HYb.out; omega
    clear f9
    go_upto_block 2 with fail
    clear f1 f2 f3 f4 f5 f6 f7 f8
    go_cut [18] (fun sq wx => sq = .int .u64 (Q0 : Int) ∧ w = wx)
    case first =>
      go_wp2_with fail
      go_loop [18, 16] (fun sq sr => ∃ q r : Nat, sq = .int .u64 (q : Int) ∧ sr = .int .u64 (r : Int) ∧ DInv R1 v0 Y a q r) (fun sq _ => (intOf sq).toNat)
      case atStart => exact ⟨_, _, rfl, rfl, HIn2.out⟩
      case round =>
        obtain ⟨q, r, rfl, rfl, I⟩ := hrel
        have HI := Lib.hid I
        obtain ⟨I1, I2, I3, I4⟩ := I
        have qI : (q : Int) ≤ 4294967297 := by omega
        have rI : (r : Int) < 4294967296 := by omega
        by_cases hlt : (R1 * 4294967296 + v0) / Y < q
        · obtain ⟨d1, d2, d3, d4, d5⟩ := DInv.down HDS2.out HI.out hlt
          have hbig := (DInv.test (u1 := v0) HDS2.out I1).2 hlt
          obtain ⟨q1, hq1⟩ : ∃ q1, q1 = q - 1 := ⟨_, rfl⟩
          obtain ⟨r1, hr1⟩ : ∃ r1, r1 = r + a := ⟨_, rfl⟩
          have q1I : (q : Int) - 1 = (q1 : Int) := by omega
          have r1I : (r : Int) + (a : Int) = (r1 : Int) := by omega
          have r1w : (r1 : Int) ≤ 8589934591 := by omega
          rw [← hq1, ← hr1] at d2
          rw [← hq1] at d3 d4
          have q0I : (1 : Int) ≤ (q : Int) := by omega
          have HN := Lib.hid (And.intro d2 (And.intro d3 d4))
          have HL := Lib.hid (show q1 < q by omega)
          clear I1 I2 hlt d1 d2 d3 d4 d5 hq1 hr1
          by_cases hq : 4294967296 ≤ q
          · have hqI : (4294967296 : Int) ≤ (q : Int) := by omega
            clear hq hbig
            by_cases hr : 4294967296 ≤ r1
            · have hrI : (4294967296 : Int) ≤ (r1 : Int) := by omega
              have HE := Lib.hid (DInv.far HDS2.out HN.out.1 HN.out.2.1 hr HN.out.2.2)
              clear hr
              go_wp2
              go_meet
              exact ⟨by rw [HQ0.out, ← HE.out], rfl⟩
            · have hrI : ¬ (4294967296 : Int) ≤ (r1 : Int) := by omega
              have HR := Lib.hid (show r1 < 4294967296 by omega)
              clear hr
              go_wp2
              go_round
              case rel => exact ⟨q1, r1, rfl, rfl, HN.out.1, HN.out.2.1, HR.out, by have := HN.out.2.2; omega⟩
              case measure => have := HL.out; simp [intOf]; omega
          · have hqI : ¬ (4294967296 : Int) ≤ (q : Int) := by omega
            obtain ⟨P, hP⟩ : ∃ P, P = q * b := ⟨_, rfl⟩
            rw [← hP] at hbig
            have hPI : (q : Int) * (b : Int) = (P : Int) := by rw [hP]; simp
            have hPw : (P : Int) ≤ 18446744073709551615 := by
              have : q * b ≤ 4294967295 * 4294967295 := Nat.mul_le_mul (by omega) (by omega)
              omega
            have hbigI : 4294967296 * (r : Int) + (v0 : Int) < (P : Int) := by omega
            clear hq hbig hP
            by_cases hr : 4294967296 ≤ r1
            · have hrI : (4294967296 : Int) ≤ (r1 : Int) := by omega
              have HE := Lib.hid (DInv.far HDS2.out HN.out.1 HN.out.2.1 hr HN.out.2.2)
              clear hr
              go_wp2
              go_meet
              exact ⟨by rw [HQ0.out, ← HE.out], rfl⟩
            · have hrI : ¬ (4294967296 : Int) ≤ (r1 : Int) := by omega
              have HR := Lib.hid (show r1 < 4294967296 by omega)
              clear hr
              go_wp2
              go_round
              case rel => exact ⟨q1, r1, rfl, rfl, HN.out.1, HN.out.2.1, HR.out, by have := HN.out.2.2; omega⟩
              case measure => have := HL.out; simp [intOf]; omega
        · have HE := Lib.hid (DInv.stop HI.out hlt)
          have hq : q < 4294967296 := by have := HDS2.out.lt; omega
          have hqI : ¬ (4294967296 : Int) ≤ (q : Int) := by omega
          have hsm := mt (DInv.test (u1 := v0) HDS2.out I1).1 hlt
          obtain ⟨P, hP⟩ : ∃ P, P = q * b := ⟨_, rfl⟩
          rw [← hP] at hsm
          have hPI : (q : Int) * (b : Int) = (P : Int) := by rw [hP]; simp
          have hPw : (P : Int) ≤ 18446744073709551615 := by
            have : q * b ≤ 4294967295 * 4294967295 := Nat.mul_le_mul (by omega) (by omega)
            omega
          have hsmI : ¬ 4294967296 * (r : Int) + (v0 : Int) < (P : Int) := by omega
          clear hq hlt hP I1 I2 hsm
          go_wp2
          go_meet
          exact ⟨by rw [HQ0.out, ← HE.out], rfl⟩
    case rest =>
      obtain ⟨rfl, rfl⟩ := hcut
      obtain ⟨C1, C2, C3, f1, f2, f3, f4⟩ := HA2.out
      have f6 := HRes.out.2
      go_wp2_with fail
      go_ret2
      exact ⟨by rw [HRes.out.1]; simp, rfl⟩

end Go.Proofs.Ytfjaboolfjgleaa
