/-
  The leaves: what trim, limbsOf, valueOf, short, limbs and signed return.
-/
import Derived.Test.YtfjaboolfjgleaaProg
import Derived.Test.YtfjaboolfjgleaaVoc
import Derived.WalkSpells
import Derived.WalkLawsBesides
import Derived.BigQuiet
namespace Go.Proofs.Ytfjaboolfjgleaa
open Go.RowKit

theorem Cells.trim {w : World} {ao : Option Addr} {xs : List Nat} (h : Cells w ao xs) (hd : Dig xs) : Cells w ao (limbs (val xs)) := by
  rw [← take_trimN hd]
  exact h.take _

set_option maxHeartbeats 400000 in
theorem trim_calls (w : World) (ao : Option Addr) (xs : List Nat) (cap : Nat) (hc : xs.length ≤ cap) (hm : cap ≤ 9223372036854775807) (h : Cells w ao xs) (hd : Dig xs) :
    Calls Try.prog 67 #[.slice ao xs.length cap] w fun e w' => e = .returned (.slice ao (limbs (val xs)).length cap) ∧ w = w' := by
  have HL := Lib.hid (trimN_length hd)
  clear hd
  go_enter Try.func67, Try.ntmps67
  go_wp2
  go_loop [3] (fun n => ∃ k : Nat, k ≤ xs.length ∧ n = .int .i64 k ∧ Hid (trimN xs k = trimN xs xs.length)) (fun n => (intOf n).toNat)
  case atStart => exact ⟨_, Nat.le_refl _, rfl, rfl⟩
  case round =>
    obtain ⟨k, hk, rfl, HT⟩ := hrel
    rcases k with _ | k
    · go_wp2
      go_ret
      exact ⟨by rw [← HL.out, ← HT.out]; rfl, rfl⟩
    · obtain ⟨b, off, rfl, hx⟩ := h.at_ (by omega)
      have hcell := hx k (by omega)
      have hk2 : k < xs.length := by omega
      clear hx
      obtain ⟨x, hx⟩ : ∃ x, x = xs.getD k 0 := ⟨_, rfl⟩
      rw [← hx] at hcell
      have HX := Lib.hid hx
      clear hx
      rcases x with _ | x
      · go_wp2
        go_round
        case rel => exact ⟨k, by omega, by go_num, by have := HT.out; rw [trimN, if_pos HX.out.symm] at this; exact this⟩
        case measure => simp [intOf]
      · go_wp2
        go_ret
        exact ⟨by rw [← HL.out, ← HT.out, trimN, if_neg (by rw [← HX.out]; omega)]; simp, rfl⟩

set_option maxHeartbeats 400000 in
theorem rtrim_calls (w : World) (ao : Option Addr) (xs : List Nat) (cap : Nat) (hc : xs.length ≤ cap) (hm : cap ≤ 9223372036854775807) (h : Cells w ao xs) (hd : Dig xs) :
    Calls Try.prog 40 #[.slice ao xs.length cap] w fun e w' => e = .returned (.slice ao (limbs (val xs)).length cap) ∧ w = w' := by
  have HL := Lib.hid (trimN_length hd)
  clear hd
  go_enter Try.func40, Try.ntmps40
  go_wp2
  go_loop [0] (fun n => ∃ k : Nat, k ≤ xs.length ∧ n = .slice ao k cap ∧ Hid (trimN xs k = trimN xs xs.length)) (fun n => match n with | .slice _ k _ => k | _ => 0)
  case atStart => exact ⟨_, Nat.le_refl _, rfl, rfl⟩
  case round =>
    obtain ⟨k, hk, rfl, HT⟩ := hrel
    rcases k with _ | k
    · go_wp2
      go_ret
      exact ⟨by rw [← HL.out, ← HT.out]; rfl, rfl⟩
    · obtain ⟨b, off, rfl, hx⟩ := h.at_ (by omega)
      have hcell := hx k (by omega)
      have hk2 : k < xs.length := by omega
      clear hx
      obtain ⟨x, hx⟩ : ∃ x, x = xs.getD k 0 := ⟨_, rfl⟩
      rw [← hx] at hcell
      have HX := Lib.hid hx
      clear hx
      rcases x with _ | x
      · go_wp2
        go_round
        case rel => exact ⟨k, by omega, by simp, by have := HT.out; rw [trimN, if_pos HX.out.symm] at this; exact this⟩
        case measure => simp
      · go_wp2
        go_ret
        exact ⟨by rw [← HL.out, ← HT.out, trimN, if_neg (by rw [← HX.out]; omega)]; simp, rfl⟩


/-- The call returns a value with this property, and nothing that was there has turned. -/
def Ret (Q : Value → World → Prop) (w : World) (e : Ending) (w' : World) : Prop := ∃ v, e = .returned v ∧ Q v w' ∧ Ext w w'
/-- A slice that reads as the limbs of a number. -/
def IsLimbs (n : Nat) (v : Value) (w : World) : Prop := ∃ ao cap, v = .slice ao (limbs n).length cap ∧ (limbs n).length ≤ cap ∧ cap ≤ 9223372036854775807 ∧ Cells w ao (limbs n)
theorem IsLimbs.ext {w w' : World} {v : Value} {n : Nat} (h : IsLimbs n v w) (e : Ext w w') : IsLimbs n v w' := by
  obtain ⟨ao, cap, h1, h2, h3, h4⟩ := h
  exact ⟨ao, cap, h1, h2, h3, h4.ext e⟩

theorem val_drop_le (xs : List Nat) (k : Nat) : val (xs.drop k) ≤ val xs := by
  induction xs generalizing k with
  | nil => simp
  | cons x r ih =>
    cases k with
    | zero => simp
    | succ k => have := ih k; simp only [List.drop_succ_cons, val]; omega
theorem val_drop_len (xs : List Nat) : val (xs.drop xs.length) = 0 := by simp [val]

set_option maxHeartbeats 400000 in
theorem valueOf_calls (w : World) (ao : Option Addr) (xs : List Nat) (cap : Nat) (hc : xs.length ≤ cap) (hm : cap ≤ 9223372036854775807) (h : Cells w ao xs) (hv : val xs ≤ 18446744073709551615) :
    Calls Try.prog 41 #[.slice ao xs.length cap] w fun e w' => e = .returned (.int .u64 ((val xs : Nat) : Int)) ∧ w = w' := by
  have HV := Lib.hid hv
  clear hv
  go_enter Try.func41, Try.ntmps41
  go_wp2
  go_loop [3, 4] (fun v i => ∃ k : Nat, k ≤ xs.length ∧ i = .int .i64 ((k : Int) - 1) ∧ v = .int .u64 ((val (xs.drop k) : Nat) : Int)) (fun _ i => (intOf i + 1).toNat)
  case atStart => exact ⟨xs.length, Nat.le_refl _, by go_num, by rw [val_drop_len]; rfl⟩
  case round =>
    obtain ⟨k, hk, rfl, rfl⟩ := hrel
    rcases k with _ | k
    · go_wp2
      go_ret
      exact ⟨by simp, rfl⟩
    · obtain ⟨b, off, rfl, hx⟩ := h.at_ (by omega)
      have hcell := hx k (by omega)
      have hk2 : k < xs.length := by omega
      have hs := val_drop xs k hk2
      have hle := val_drop_le xs k
      clear hx
      obtain ⟨x, hx⟩ : ∃ x, x = xs.getD k 0 := ⟨_, rfl⟩
      obtain ⟨v, hv⟩ : ∃ v, v = val (xs.drop (k + 1)) := ⟨_, rfl⟩
      rw [← hx] at hcell
      rw [← hx, ← hv] at hs
      rw [← hv]
      have hb : v * 1000000000 + x ≤ 18446744073709551615 := by have := HV.out; omega
      have HS := Lib.hid hs
      clear hs hle hx hv
      have ek : ((k + 1 : Nat) : Int) - 1 = (k : Int) := by omega
      rw [ek]
      clear ek
      go_wp2
      go_round
      case rel => exact ⟨k, by omega, by go_num, by rw [HS.out]; go_num⟩
      case measure => simp [intOf]

set_option maxHeartbeats 400000 in
theorem short_calls (w : World) (ao : Option Addr) (xs : List Nat) (cap : Nat) (hc : xs.length ≤ cap) (hm : cap ≤ 9223372036854775807) (h : Cells w ao xs) (hv : val xs ≤ 18446744073709551615) :
    Calls Try.prog 44 #[.slice ao xs.length cap] w fun e w' => e = .returned (.int .u64 ((val xs : Nat) : Int)) ∧ w = w' := by
  have HV := Lib.hid hv
  clear hv
  go_enter Try.func44, Try.ntmps44
  go_wp2
  go_loop [3, 4] (fun v i => ∃ k : Nat, k ≤ xs.length ∧ i = .int .i64 ((k : Int) - 1) ∧ v = .int .u64 ((val (xs.drop k) : Nat) : Int)) (fun _ i => (intOf i + 1).toNat)
  case atStart => exact ⟨xs.length, Nat.le_refl _, by go_num, by rw [val_drop_len]; rfl⟩
  case round =>
    obtain ⟨k, hk, rfl, rfl⟩ := hrel
    rcases k with _ | k
    · go_wp2
      go_ret
      exact ⟨by simp, rfl⟩
    · obtain ⟨b, off, rfl, hx⟩ := h.at_ (by omega)
      have hcell := hx k (by omega)
      have hk2 : k < xs.length := by omega
      have hs := val_drop xs k hk2
      have hle := val_drop_le xs k
      clear hx
      obtain ⟨x, hx⟩ : ∃ x, x = xs.getD k 0 := ⟨_, rfl⟩
      obtain ⟨v, hv⟩ : ∃ v, v = val (xs.drop (k + 1)) := ⟨_, rfl⟩
      rw [← hx] at hcell
      rw [← hx, ← hv] at hs
      rw [← hv]
      have hb : v * 1000000000 + x ≤ 18446744073709551615 := by have := HV.out; omega
      have HS := Lib.hid hs
      clear hs hle hx hv
      have ek : ((k + 1 : Nat) : Int) - 1 = (k : Int) := by omega
      rw [ek]
      clear ek
      go_wp2
      go_round
      case rel => exact ⟨k, by omega, by go_num, by rw [HS.out]; go_num⟩
      case measure => simp [intOf]


theorem cells_lit3 (w : World) (a b c : Nat) {A B C : Int} (hA : A = a) (hB : B = b) (hC : C = c) :
    Cells (w.alloc (.cells #[.int .u32 A, .int .u32 B, .int .u32 C] 46)) (some ⟨w.heap.size, 0, none⟩) [a, b, c] := by
  subst hA hB hC
  exact (Blk.new w [a, b, c]).cells


set_option maxHeartbeats 400000 in
theorem limbsOf_calls (w : World) (n : Nat) (hn : n ≤ 18446744073709551615) :
    Calls Try.prog 43 #[.int .u64 (n : Int)] w (Ret (IsLimbs n) w) := by
  have hcl := cells_lit3 w (n % 1000000000) (n / 1000000000 % 1000000000) (n / 1000000000 / 1000000000) (A := ↑n % 1000000000) (B := ↑n / 1000000000 % 1000000000) (C := ↑n / 1000000000 / 1000000000) (by omega) (by omega) (by omega)
  have hd : Dig [n % 1000000000, n / 1000000000 % 1000000000, n / 1000000000 / 1000000000] :=
    Dig.cons (by omega) (Dig.cons (by omega) (Dig.cons (by omega) Dig.nil))
  have hv : val [n % 1000000000, n / 1000000000 % 1000000000, n / 1000000000 / 1000000000] = n := by simp only [val]; omega
  have hfin := hcl.trim hd
  have hln : (limbs n).length ≤ 3 := limbs_len_le (by omega)
  rw [hv] at hfin
  have HV := Lib.hid hv
  clear hv
  go_enter Try.func43, Try.ntmps43
  go_wp2_with fail
  refine (trim_calls _ _ _ 3 (by simp) (by omega) hcl hd).mono ?_
  rintro e w' ⟨rfl, rfl⟩
  rw [HV.out]
  go_wp2
  go_ret
  exact ⟨_, rfl, ⟨_, _, rfl, hln, by omega, hfin⟩, (Ext.refl w).alloc _⟩

/-- The number with a sign and an absolute value. -/
def sgn (s : Bool) (n : Nat) : Int := if s then -(n : Int) else n
theorem sgn_zero (s : Bool) : sgn s 0 = 0 := by cases s <;> rfl
theorem natAbs_sgn (s : Bool) (n : Nat) : (sgn s n).natAbs = n := by unfold sgn; split <;> omega
theorem sgn_neg (s : Bool) {n : Nat} (h : n ≠ 0) : decide (sgn s n < 0) = s := by
  cases s
  · simp [sgn]
  · simp [sgn]; omega
/-- How an absolute value with a sign becomes an integer: 0 bears no sign. -/
theorem isInt_of {w : World} {s : Bool} {ao : Option Addr} {n cap : Nat} (h0 : n ≠ 0) (h1 : (limbs n).length ≤ cap) (h2 : cap ≤ 9223372036854775807) (h3 : Cells w ao (limbs n)) :
    IsInt w (.agg #[.bool s, .slice ao (limbs n).length cap]) (sgn s n) :=
  ⟨ao, cap, by rw [natAbs_sgn, sgn_neg s h0], by rw [natAbs_sgn]; exact h1, h2, by rw [natAbs_sgn]; exact h3⟩
theorem isInt_zero (w : World) : IsInt w (.agg #[.bool false, .slice none 0 0]) 0 := ⟨none, 0, by simp [limbs_zero], by simp [limbs_zero], by omega, Cells.nil _ _⟩

set_option maxHeartbeats 400000 in
theorem signed_calls (w : World) (s : Bool) (ao : Option Addr) (xs : List Nat) (cap : Nat) (hc : xs.length ≤ cap) (hm : cap ≤ 9223372036854775807) (h : Cells w ao xs) (hd : Dig xs) :
    Calls Try.prog 42 #[.bool s, .slice ao xs.length cap] w (Ret (fun v w' => IsInt w' v (sgn s (val xs))) w) := by
  have hfin := h.trim hd
  have hlen : (limbs (val xs)).length ≤ xs.length := limbs_len_le (val_lt hd)
  rcases Nat.eq_zero_or_pos (val xs) with h0 | h0
  · have HZ := Lib.hid h0
    clear h0
    go_enter Try.func42, Try.ntmps42
    go_wp2_with fail
    refine (trim_calls _ _ _ _ hc hm (h.ext ((Ext.refl w).alloc _)) hd).mono ?_
    rintro e w' ⟨rfl, rfl⟩
    rw [HZ.out, limbs_zero]
    go_wp2
    exact bodyPost_ret (v := .agg #[.bool false, .slice none 0 0]) (by simp [results, Try.results42, go_sem]) rfl ⟨_, rfl, by rw [HZ.out, sgn_zero]; exact isInt_zero _, (Ext.refl w).alloc _⟩
  · have hne : (limbs (val xs)).length ≠ 0 := by
      intro e; have := limbs_eq_nil.1 (List.eq_nil_of_length_eq_zero e); omega
    have hI := isInt_of (s := s) (by omega) (Nat.le_trans hlen hc) hm hfin
    obtain ⟨n, hn⟩ : ∃ n, n = (limbs (val xs)).length := ⟨_, rfl⟩
    rw [← hn] at hne
    have hbe : ((n : Int) == 0) = false := by simpa using hne
    have HN := Lib.hid hn
    clear hn
    go_enter Try.func42, Try.ntmps42
    go_wp2_with fail
    refine (trim_calls _ _ _ _ hc hm (h.ext ((Ext.refl w).alloc _)) hd).mono ?_
    rintro e w' ⟨rfl, rfl⟩
    rw [← HN.out]
    go_wp2
    exact bodyPost_ret (v := .agg #[.bool s, .slice ao n cap]) (by simp [results, Try.results42, go_sem]) rfl ⟨_, rfl, by rw [HN.out]; exact hI.ext ((Ext.refl w).alloc _), (Ext.refl w).alloc _⟩

end Go.Proofs.Ytfjaboolfjgleaa
