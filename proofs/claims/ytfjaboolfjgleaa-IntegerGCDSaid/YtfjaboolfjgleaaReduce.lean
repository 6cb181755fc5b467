/-
  reduce: one or more steps of Euclid's algorithm.
-/
import Derived.Test.YtfjaboolfjgleaaLead
namespace Go.Proofs.Ytfjaboolfjgleaa
open Go.RowKit

/-- What reduce returns. -/
def RetRed (m n : Nat) (w : World) (e : Ending) (w' : World) : Prop :=
  ∃ v1 v2 m' n', e = .returned (.tuple #[v1, v2]) ∧ IsLimbs m' v1 w' ∧ IsLimbs n' v2 w' ∧ (Nat.gcd m' n' = Nat.gcd m n ∧ n' < n ∧ n' ≤ m' ∧ m' ≤ m) ∧ Ext w w'
theorem leh_nat {m n : Nat} {N H L h l a b c d : Int} (I : Leh (m : Int) n N H L h l a b c d) (hb : b ≠ 0) :
    ∃ z v : Nat, (z : Int) = a * m + b * n ∧ (v : Int) = c * m + d * n ∧ Nat.gcd z v = Nat.gcd m n ∧ v < n ∧ v ≤ z ∧ z ≤ m := by
  have h1 := I.v0
  have h2 := I.vz
  have h3 := I.zX
  have h4 := I.low hb
  have h5 := I.gcd
  obtain ⟨z, hz⟩ : ∃ z : Nat, a * m + b * n = z := ⟨(a * m + b * n).toNat, by omega⟩
  obtain ⟨v, hv⟩ : ∃ v : Nat, c * m + d * n = v := ⟨(c * m + d * n).toNat, by omega⟩
  rw [hz, hv] at h5
  exact ⟨z, v, hz.symm, hv.symm, h5, by omega, by omega, by omega⟩

set_option maxRecDepth 100000 in
set_option maxHeartbeats 3200000 in
theorem reduce_calls (w : World) (ax ay : Option Addr) (m n cx cy : Nat) (lx : (limbs m).length ≤ 1048576) (hn : 2 < (limbs n).length) (hnm : n ≤ m) (kx : (limbs m).length ≤ cx) (ky : (limbs n).length ≤ cy) (bx : cx ≤ 9223372036854775807) (by_ : cy ≤ 9223372036854775807)
    (hx : Cells w ax (limbs m)) (hy : Cells w ay (limbs n)) :
    Calls Try.prog 60 #[.slice ax (limbs m).length cx, .slice ay (limbs n).length cy] w (RetRed m n w) := by
  have hl := limbs_len_mono hnm
  obtain ⟨k, hk⟩ : ∃ k, (limbs m).length = k + 2 := ⟨(limbs m).length - 2, by omega⟩
  obtain ⟨b1, o1, rfl, _⟩ := hx.at_ (by omega)
  have hL := leadingSteps_calls w b1 o1 ay (limbs m) (limbs n) cx cy k hk lx hl kx bx ky by_ hx (dig_limbs m) hy (dig_limbs n) (by rw [val_limbs, val_limbs]; exact hnm)
  rw [val_limbs, val_limbs, ← hk] at hL
  have HL := Lib.hid hL
  have hn0 : 0 < n := by
    rcases Nat.eq_zero_or_pos n with h | h
    · subst h; simp [limbs_zero] at hn
    · exact h
  have HD := Lib.hid (divOK m n lx hn0)
  have HC := Lib.hid (fun W (e : Ext w W) p q Z hp hq hZ hlt => combine_calls W (some ⟨b1, o1, none⟩) ay (limbs m) (limbs n) cx cy p q Z (by omega) hl (hx.ext e) (hy.ext e) (dig_limbs m) (dig_limbs n) hp hq hZ hlt)
  have HN := Lib.hid (And.intro hn0 (And.intro hnm (And.intro kx (And.intro ky (And.intro bx by_)))))
  have HX := Lib.hid (And.intro hx hy)
  clear hL hk hn lx hnm kx ky bx by_ hx hy hl hn0
  go_enter Try.func60, Try.ntmps60
  go_wp2_with fail
  refine HL.out.mono ?_
  rintro e w1 ⟨a, b, c, d, h, l, rfl, I, e1⟩
  have HI := Lib.hid I
  clear I HL
  by_cases hb : b = 0
  · have hbb : (b == 0) = true := by simpa using hb
    clear hb
    go_wp2_with fail
    have hW := (Ext.refl w1).alloc (.cells #[.int .i64 a, .int .i64 b, .int .i64 c, .int .i64 d] 69)
    generalize w1.alloc (.cells #[.int .i64 a, .int .i64 b, .int .i64 c, .int .i64 d] 69) = W at *
    have eW := e1.trans hW
    refine (HD.out W _ _ _ _ HN.out.2.2.1 HN.out.2.2.2.1 HN.out.2.2.2.2.1 HN.out.2.2.2.2.2 (HX.out.1.ext eW) (HX.out.2.ext eW)).mono ?_
    rintro e w2 ⟨v1, v2, rfl, _, hv2, e2⟩
    obtain ⟨a2, c2, rfl, j1, j2, j3⟩ := hv2
    clear hW
    go_wp2_with fail
    go_ret2
    have hn0 := HN.out.1
    exact ⟨_, _, n, m % n, rfl, ⟨_, _, rfl, HN.out.2.2.2.1, HN.out.2.2.2.2.2, HX.out.2.ext (eW.trans e2)⟩, ⟨a2, c2, rfl, j1, j2, j3⟩,
      ⟨by rw [Nat.gcd_comm n, ← Nat.gcd_rec, Nat.gcd_comm], Nat.mod_lt _ hn0, Nat.le_of_lt (Nat.mod_lt _ hn0), HN.out.2.1⟩, eW.trans e2⟩
  · have hbb : (b == 0) = false := by simpa using hb
    obtain ⟨z, v, hz, hv, hg, h1, h2, h3⟩ := leh_nat HI.out hb
    have HG := Lib.hid (And.intro hg (And.intro h1 (And.intro h2 h3)))
    have C1 := Lib.hid (fun W (e : Ext w W) => HC.out W e a b z HI.out.ba HI.out.bb (by rw [val_limbs, val_limbs]; exact hz) (Nat.lt_of_le_of_lt h3 (lt_of_limbs_len (Nat.le_refl _))))
    have C2 := Lib.hid (fun W (e : Ext w W) => HC.out W e c d v HI.out.bc HI.out.bd (by rw [val_limbs, val_limbs]; exact hv) (Nat.lt_of_le_of_lt (Nat.le_trans h2 h3) (lt_of_limbs_len (Nat.le_refl _))))
    clear hz hv hg h1 h2 h3 hb HC
    go_upto_region 2 with fail
    have hW := (Ext.refl w1).alloc (.cells #[.int .i64 a, .int .i64 b, .int .i64 c, .int .i64 d] 69)
    have h4 := four_new w1 a b c d 69
    generalize w1.alloc (.cells #[.int .i64 a, .int .i64 b, .int .i64 c, .int .i64 d] 69) = W at *
    have eW := e1.trans hW
    obtain ⟨⟨s0, s1, s2, s3⟩, _⟩ := h4
    have S0 : W.drew.cell? ⟨w1.heap.size, 0, none⟩ = some (.int .i64 a) ∧ W.drew.cell? ⟨w1.heap.size, 1, none⟩ = some (.int .i64 b) ∧ W.drew.cell? ⟨w1.heap.size, 2, none⟩ = some (.int .i64 c) ∧ W.drew.cell? ⟨w1.heap.size, 3, none⟩ = some (.int .i64 d) := ⟨s0, s1, s2, s3⟩
    go_wp2_with fail
    go_region_held3 (fun w' => w'.cell? ⟨w1.heap.size, 0, none⟩ = some (.int .i64 a) ∧ w'.cell? ⟨w1.heap.size, 1, none⟩ = some (.int .i64 b) ∧ w'.cell? ⟨w1.heap.size, 2, none⟩ = some (.int .i64 c) ∧ w'.cell? ⟨w1.heap.size, 3, none⟩ = some (.int .i64 d))
      (first | with_reducible exact S0 | with_reducible exact S1 | with_reducible exact S2) ((first
        | (go_at_call 73; ((with_reducible refine (C1.out _ (eW.drew)).mono ?_)); rintro e w2 ⟨x1, rfl, hx1, k1⟩; have K1 := (Ext.refl W).drew.trans k1; have S1 := And.intro (K1.cell s0) (And.intro (K1.cell s1) (And.intro (K1.cell s2) (K1.cell s3))))
        | (go_at_call 73; ((with_reducible refine (C2.out _ (eW.trans K1)).mono ?_)); rintro e w3 ⟨x2, rfl, hx2, k2⟩; have K2 := K1.trans k2; have S2 := And.intro (K2.cell s0) (And.intro (K2.cell s1) (And.intro (K2.cell s2) (K2.cell s3))))))
    go_wp2
    go_ret2
    exact ⟨x1, x2, z, v, rfl, hx1.ext k2, hx2, HG.out, eW.trans K2⟩

end Go.Proofs.Ytfjaboolfjgleaa
