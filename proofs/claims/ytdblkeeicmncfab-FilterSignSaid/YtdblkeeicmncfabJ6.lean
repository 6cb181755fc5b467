/-
  Texts of this seat, joined.
-/
import Derived.Test.YtdblkeeicmncfabJ5
import Derived.Laws.FloatArith
import Derived.Laws.Externs
import Derived.Test.YtdblkeeicmncfabRows
import Derived.ProofKit
import Derived.OpenShut
import Derived.ChangeOld
import Derived.Lib.SmallJoins
import Derived.LaidLaws
import Derived.Handed
/- ---- Int64 ---- -/
section
/-
  Int64, of the program and of the reference.
-/
set_option maxRecDepth 100000
namespace Go.Proofs.Ytdblkeeicmncfab
open Go.RowKit

theorem limbs_top9 {n : Nat} (h : (limbs n).length = 3) : n = val ((limbs n).take 2) + 1000000000000000000 * (limbs n).getD 2 0 ∧ val ((limbs n).take 2) < 1000000000000000000 := by
  have h1 := val_split (limbs n) 2 (by omega)
  rw [val_limbs, val_drop _ 2 (by omega)] at h1
  have h2 : (limbs n).drop (2 + 1) = [] := List.drop_of_length_le (by omega)
  rw [h2] at h1
  have h3 := val_lt ((dig_limbs n).take 2)
  rw [List.length_take, h] at h3
  simp only [val] at h1
  have e : 1000000000 ^ min 2 3 = 1000000000000000000 := rfl
  rw [e] at h3
  omega
/-- Which integers Int64 looks into: those below 10^19. -/
theorem big_len {n : Nat} (h : 10000000000000000000 ≤ n) : 3 < (limbs n).length ∨ ((limbs n).length = 3 ∧ 9 < (limbs n).getD 2 0) := by
  rcases Nat.lt_or_ge 3 (limbs n).length with h1 | h1
  · exact .inl h1
  · right
    have h3 : (limbs n).length = 3 := by
      rcases Nat.lt_or_ge (limbs n).length 3 with h2 | h2
      · have := lt_of_limbs_len (n := n) (k := 2) (by omega); omega
      · omega
    obtain ⟨h4, h5⟩ := limbs_top9 h3
    exact ⟨h3, by omega⟩
theorem small_len {n : Nat} (h : n < 10000000000000000000) : (limbs n).length ≤ 3 ∧ ((limbs n).length = 3 → (limbs n).getD 2 0 ≤ 9) := by
  refine ⟨limbs_len_le (by omega), fun h3 => ?_⟩
  obtain ⟨h4, h5⟩ := limbs_top9 h3
  omega
theorem neg_conv (n : Nat) (h0 : 0 < n) (h : n ≤ 9223372036854775808) : wrap64 (IntKind.u64.wrap (-(n : Int))) = -(n : Int) := by
  simp only [wrap64, IntKind.wrap_u64]
  omega
theorem wrap64_small {m : Int} (n : Nat) (h : (n : Int) = m) (k : m ≤ 9223372036854775807) : wrap64 m = m := by
  simp only [wrap64]
  omega
theorem ret2 {a b : Int} {c d : Bool} (h : a = b) (k : c = d) : Ending.returned (.tuple #[.int .i64 a, .bool c]) = .returned (.tuple #[.int .i64 b, .bool d]) := by rw [h, k]

set_option maxRecDepth 100000 in
set_option maxHeartbeats 1600000 in
theorem int64_calls (w : World) (v : Value) (z : Int) (h : IsInt w v z) :
    Calls Try.prog 45 #[v] w fun e w' => e = .returned (.tuple #[.int .i64 (i64v z), .bool (i64ok z)]) ∧ Ext w w' := by
  obtain ⟨ao, cap, s, n, rfl, h1, h2, h3, H4, H5, H6⟩ := h.open_
  obtain ⟨W, hW, eW, c0, c1⟩ := box1 w (.bool s) (.slice ao (limbs n).length cap) 24
  by_cases hb : 10000000000000000000 ≤ n
  · have HO := Lib.hid (i64_out (z := z) (by have := H4.out; omega))
    rcases big_len hb with hl | ⟨hl, ht⟩
    · have hlI : decide ((3 : Int) < ((limbs n).length : Int)) = true := decide_eq_true (by omega)
      clear hb hl
      go_enter Try.func45, Try.ntmps45
      go_wp2
      go_ret2
      exact ⟨ret2 HO.out.1.symm HO.out.2.symm, eW⟩
    · obtain ⟨b1, o1, rfl, hx⟩ := (h3.ext eW).at_ (by omega)
      have hc := hx 2 (by omega)
      clear hx
      generalize (limbs n).getD 2 0 = t at *
      have htI : (9 : Int) < (t : Int) := by omega
      generalize (limbs n).length = L at *
      subst hl
      clear hb ht
      go_enter Try.func45, Try.ntmps45
      go_wp2
      go_ret2
      exact ⟨ret2 HO.out.1.symm HO.out.2.symm, eW⟩
  · obtain ⟨hl, ht⟩ := small_len (n := n) (by omega)
    have hv := valueOf_calls W ao (limbs n) cap h1 h2 (h3.ext eW) (by rw [val_limbs]; omega)
    rw [val_limbs] at hv
    have HV := Lib.hid hv
    have hfin : Hid ((∃ L : Nat, L = (limbs n).length ∧ L ≤ 3 ∧ (L = 3 → ∃ b1 o1 t, ao = some ⟨b1, o1, none⟩ ∧ W.cell? ⟨b1, o1 + 2, none⟩ = some (.int .u32 ((t : Nat) : Int)) ∧ t ≤ 9))) := by
      refine ⟨_, rfl, hl, fun h' => ?_⟩
      obtain ⟨b1, o1, rfl, hx⟩ := (h3.ext eW).at_ (by omega)
      exact ⟨b1, o1, _, rfl, hx 2 (by omega), ht h'⟩
    obtain ⟨L, hL, hL3, hLt⟩ := hfin.out
    rw [← hL] at HV
    rw [← hL] at hW c1
    have HLE := Lib.hid (show (Value.slice ao (limbs n).length cap) = .slice ao L cap by rw [hL])
    have HN := Lib.hid (show n < 10000000000000000000 by omega)
    have hz : z = sgn s n := H5.out
    clear hv hl ht h1 h2 h3 hb hfin h
    rw [HLE.out]
    clear hL HLE
    have hgo : ∀ (P : Prop), True := fun _ => trivial
    have HZ := Lib.hid hz
    clear hz hgo
    rcases Nat.lt_or_ge L 3 with hl | hl
    · have hlI : (L : Int) < 3 := by omega
      clear hLt hl hL3
      cases s
      by_cases hn : n ≤ 9223372036854775807
      · have HI := Lib.hid (i64_in (z := z) (by rw [HZ.out]; simp only [sgn]; simp; try omega) (by rw [HZ.out]; simp only [sgn]; simp; try omega))
        have hnI : (n : Int) ≤ 9223372036854775807 := by omega
        have HE : Hid (z = n) := HZ.out
        clear hn
        go_enter Try.func45, Try.ntmps45
        go_wp2_with fail
        refine HV.out.mono ?_
        rintro e w' ⟨rfl, rfl⟩
        generalize hm : (n : Int) = m at hnI ⊢
        have HM := Lib.hid hm
        clear hm
        go_wp2
        go_ret2
        exact ⟨ret2 (by rw [HI.out.1, HE.out, HM.out]; exact wrap64_small n HM.out hnI) HI.out.2.symm, eW⟩
      · have HI := Lib.hid (i64_out (z := z) (.inr (by rw [HZ.out]; simp only [sgn]; simp; try omega)))
        have hnI : (9223372036854775807 : Int) < n := by omega
        clear hn
        go_enter Try.func45, Try.ntmps45
        go_wp2_with fail
        refine HV.out.mono ?_
        rintro e w' ⟨rfl, rfl⟩
        generalize hm : (n : Int) = m at hnI ⊢
        have HM := Lib.hid hm
        clear hm
        go_wp2
        go_ret2
        exact ⟨ret2 HI.out.1.symm HI.out.2.symm, eW⟩
      by_cases hn : n ≤ 9223372036854775808
      · have HI := Lib.hid (i64_in (z := z) (by rw [HZ.out]; simp only [sgn]; simp; try omega) (by rw [HZ.out]; simp only [sgn]; simp; try omega))
        have hnI : decide ((n : Int) ≤ 9223372036854775808) = true := decide_eq_true (by omega)
        have HE : Hid (z = -n) := HZ.out
        have HP := Lib.hid (H6.out rfl)
        have HB := Lib.hid hn
        clear hn
        go_enter Try.func45, Try.ntmps45
        go_wp2_with fail
        refine HV.out.mono ?_
        rintro e w' ⟨rfl, rfl⟩
        go_wp2
        go_ret2
        exact ⟨ret2 (by rw [HI.out.1, HE.out]; exact neg_conv n HP.out HB.out) HI.out.2.symm, eW⟩
      · have HI := Lib.hid (i64_out (z := z) (.inl (by rw [HZ.out]; simp only [sgn]; simp; try omega)))
        have hnI : decide ((n : Int) ≤ 9223372036854775808) = false := decide_eq_false (by omega)
        clear hn
        go_enter Try.func45, Try.ntmps45
        go_wp2_with fail
        refine HV.out.mono ?_
        rintro e w' ⟨rfl, rfl⟩
        go_wp2
        go_ret2
        exact ⟨ret2 HI.out.1.symm HI.out.2.symm, eW⟩
    · obtain ⟨b1, o1, t, rfl, hc, htt⟩ := hLt (by omega)
      obtain rfl : L = 3 := by omega
      have htI : (t : Int) ≤ 9 := by omega
      clear hLt hl hL3 htt
      cases s
      by_cases hn : n ≤ 9223372036854775807
      · have HI := Lib.hid (i64_in (z := z) (by rw [HZ.out]; simp only [sgn]; simp; try omega) (by rw [HZ.out]; simp only [sgn]; simp; try omega))
        have hnI : (n : Int) ≤ 9223372036854775807 := by omega
        have HE : Hid (z = n) := HZ.out
        clear hn
        go_enter Try.func45, Try.ntmps45
        go_wp2_with fail
        refine HV.out.mono ?_
        rintro e w' ⟨rfl, rfl⟩
        generalize hm : (n : Int) = m at hnI ⊢
        have HM := Lib.hid hm
        clear hm
        go_wp2
        go_ret2
        exact ⟨ret2 (by rw [HI.out.1, HE.out, HM.out]; exact wrap64_small n HM.out hnI) HI.out.2.symm, eW⟩
      · have HI := Lib.hid (i64_out (z := z) (.inr (by rw [HZ.out]; simp only [sgn]; simp; try omega)))
        have hnI : (9223372036854775807 : Int) < n := by omega
        clear hn
        go_enter Try.func45, Try.ntmps45
        go_wp2_with fail
        refine HV.out.mono ?_
        rintro e w' ⟨rfl, rfl⟩
        generalize hm : (n : Int) = m at hnI ⊢
        have HM := Lib.hid hm
        clear hm
        go_wp2
        go_ret2
        exact ⟨ret2 HI.out.1.symm HI.out.2.symm, eW⟩
      by_cases hn : n ≤ 9223372036854775808
      · have HI := Lib.hid (i64_in (z := z) (by rw [HZ.out]; simp only [sgn]; simp; try omega) (by rw [HZ.out]; simp only [sgn]; simp; try omega))
        have hnI : decide ((n : Int) ≤ 9223372036854775808) = true := decide_eq_true (by omega)
        have HE : Hid (z = -n) := HZ.out
        have HP := Lib.hid (H6.out rfl)
        have HB := Lib.hid hn
        clear hn
        go_enter Try.func45, Try.ntmps45
        go_wp2_with fail
        refine HV.out.mono ?_
        rintro e w' ⟨rfl, rfl⟩
        go_wp2
        go_ret2
        exact ⟨ret2 (by rw [HI.out.1, HE.out]; exact neg_conv n HP.out HB.out) HI.out.2.symm, eW⟩
      · have HI := Lib.hid (i64_out (z := z) (.inl (by rw [HZ.out]; simp only [sgn]; simp; try omega)))
        have hnI : decide ((n : Int) ≤ 9223372036854775808) = false := decide_eq_false (by omega)
        clear hn
        go_enter Try.func45, Try.ntmps45
        go_wp2_with fail
        refine HV.out.mono ?_
        rintro e w' ⟨rfl, rfl⟩
        go_wp2
        go_ret2
        exact ⟨ret2 HI.out.1.symm HI.out.2.symm, eW⟩

end Go.Proofs.Ytdblkeeicmncfab
end

/- ---- Inl ---- -/
section
/-
  Functions taken at their text: a call is what the walk through its body comes to.
-/
set_option maxRecDepth 100000
namespace Go.Proofs.Ytdblkeeicmncfab
open Go.RowKit

def kInl (C : Cfg) (fn : Func) : Con := fun args G =>
  if args.all noPtr && (decide (args.length ≤ fn.ntmps) && decide (fn.results.toList.length ≤ 4)) then
    match funE C fn G args with
    | some (.leaf l) => some (toAV l)
    | _ => none
  else none
def kInlN (C : Cfg) (fn : Func) (args : List AV) (G : Asm) : Option BT :=
  match funE C fn G args with
  | some (.ite b _ _) => some b
  | _ => none
theorem toAV_nptr {l : List (Bool × List Chunk)} {x off : Nat} : toAV l ≠ .ptr x off := by
  unfold toAV
  split <;> (intro h; cases h)
theorem toAV_beta {E : Env} {β β' : Nat → Nat} {w : World} {l : List (Bool × List Chunk)} {v : Value} (h : (toAV l).holds E β w v) : (toAV l).holds E β' w v := by
  unfold toAV at *
  split at h <;> exact h
structure InlOK (P : Program) (l : List (Nat × Func)) : Prop where
  all : ∀ p ∈ l, P.funcs[p.1]? = some p.2 ∧ p.2.name ≠ "runtime.NumGoroutine" ∧ p.2.body.isNone = false
theorem InlOK.nil {P : Program} : InlOK P [] := ⟨fun _ h => by cases h⟩
theorem InlOK.cons {P : Program} {f : Nat} {fn : Func} {l : List (Nat × Func)} (h : P.funcs[f]? = some fn) (h1 : fn.name ≠ "runtime.NumGoroutine") (h2 : fn.body.isNone = false) (k : InlOK P l) : InlOK P ((f, fn) :: l) := ⟨fun d hd => by
  rcases List.mem_cons.1 hd with rfl | hd
  · exact ⟨h, h1, h2⟩
  · exact k.all d hd⟩
theorem kInl_ok {P : Program} (hm : P.follows .mixedOrders = true) {E : Env} {C : Cfg} (hC : CfgOK P E C) (hw : ∀ w, C.wok w) {f : Nat} {fn : Func} (hf : P.funcs[f]? = some fn) (h1 : fn.name ≠ "runtime.NumGoroutine") (h2 : fn.body.isNone = false) : ConOK P E f (kInl C fn) := by
  refine ⟨?_, ?_, fn, hf, h1, h2⟩
  · intro args G r h hG β w vs hv hlen
    unfold kInl at h
    split at h
    · rename_i hc
      simp only [Bool.and_eq_true, decide_eq_true_iff] at hc
      split at h
      · rename_i l hl
        injection h with h
        subst h
        refine (fun_sound hm hC hG hf hc.2.2 hl hc.2.1 hc.1 w vs hlen (fun i x hx => ⟨β, hv i x hx⟩) (fun w' _ => hw w')).mono ?_
        rintro e w' ⟨β', v, rfl, hh, ex⟩
        exact ⟨v, rfl, toAV_beta hh, ex⟩
      · cases h
    · cases h
  · intro args G r h x off
    unfold kInl at h
    split at h
    · split at h
      · injection h with h; subst h; exact toAV_nptr
      · cases h
    · cases h
/-- Calls of C, and where it knows none, functions taken at their text in C0. -/
def cfgI (C C0 : Cfg) (l : List (Nat × Func)) : Cfg :=
  { C with
    calls := fun f args M G => match findR l f with
      | some fn => kInl C0 fn args G
      | none => C.calls f args M G
    need := fun f args M G => match findR l f with
      | some fn => kInlN C0 fn args G
      | none => C.need f args M G }
theorem cfgI_ok {P : Program} (hm : P.follows .mixedOrders = true) {E : Env} {C C0 : Cfg} {l : List (Nat × Func)} (h : CfgOK P E C) (h0 : CfgOK P E C0) (hw : ∀ w, C0.wok w) (hl : InlOK P l) : CfgOK P E (cfgI C C0 l) := by
  refine ⟨h.zero, h.ag, h.fld, h.flds, h.bool, h.row, h.arr, ?_, ?_, ?_, h.slc, h.strT, h.cnv, h.apd, h.eq2⟩
  · intro f args M G r hr hG β w vs hwk hv hlen hmem
    simp only [cfgI] at hr
    split at hr
    · rename_i fn hfn
      obtain ⟨k1, k2, k3⟩ := hl.all _ (findR_spec hfn)
      exact (kInl_ok hm h0 hw k1 k2 k3).calls args G r hr hG β w vs hv hlen
    · exact h.calls f args M G r hr hG β w vs hwk hv hlen hmem
  · intro f args M G r hr x off
    simp only [cfgI] at hr
    split at hr
    · rename_i fn hfn
      obtain ⟨k1, k2, k3⟩ := hl.all _ (findR_spec hfn)
      exact (kInl_ok hm h0 hw k1 k2 k3).nptr args G r hr x off
    · exact h.nptr f args M G r hr x off
  · intro f args M G r hr
    simp only [cfgI] at hr
    split at hr
    · rename_i fn hfn
      obtain ⟨k1, k2, k3⟩ := hl.all _ (findR_spec hfn)
      exact ⟨fn, k1, k2, k3⟩
    · exact h.body f args M G r hr
theorem TabOK.app {P : Program} {E : Env} {l m : List (Nat × Con)} (h : TabOK P E l) (k : TabOK P E m) : TabOK P E (l ++ m) := ⟨fun p hp => by
  rcases List.mem_append.1 hp with hp | hp
  · exact h.all p hp
  · exact k.all p hp⟩
/-- A table, and functions taken at their text. -/
def cfgT (tab : List (Nat × Con)) (l : List (Nat × Func)) : Cfg := cfgI (cfgOf tab) (cfgOf tab) l
def cfgT2 (tab : List (Nat × Con)) (l l2 : List (Nat × Func)) : Cfg := cfgI (cfgT tab l) (cfgT tab l) l2
def cfgT3 (tab : List (Nat × Con)) (l l2 l3 : List (Nat × Func)) : Cfg := cfgI (cfgT2 tab l l2) (cfgT2 tab l l2) l3
theorem cfgT_ok {E : Env} {tab : List (Nat × Con)} {l : List (Nat × Func)} (hm : Try.prog.follows .mixedOrders = true) (h : TabOK Try.prog E tab) (hl : InlOK Try.prog l) : CfgOK Try.prog E (cfgT tab l) := cfgI_ok hm (cfg_ok h) (cfg_ok h) (fun _ => trivial) hl
theorem cfgT2_ok {E : Env} {tab : List (Nat × Con)} {l l2 : List (Nat × Func)} (hm : Try.prog.follows .mixedOrders = true) (h : TabOK Try.prog E tab) (hl : InlOK Try.prog l) (hl2 : InlOK Try.prog l2) : CfgOK Try.prog E (cfgT2 tab l l2) := cfgI_ok hm (cfgT_ok hm h hl) (cfgT_ok hm h hl) (fun _ => trivial) hl2
theorem cfgT3_ok {E : Env} {tab : List (Nat × Con)} {l l2 l3 : List (Nat × Func)} (hm : Try.prog.follows .mixedOrders = true) (h : TabOK Try.prog E tab) (hl : InlOK Try.prog l) (hl2 : InlOK Try.prog l2) (hl3 : InlOK Try.prog l3) : CfgOK Try.prog E (cfgT3 tab l l2 l3) := cfgI_ok hm (cfgT2_ok hm h hl hl2) (cfgT2_ok hm h hl hl2) (fun _ => trivial) hl3
end Go.Proofs.Ytdblkeeicmncfab
end

/- ---- Fla ---- -/
section
/-
  Package filter: machine numbers, and awake.
-/
set_option maxRecDepth 100000
namespace Go.Proofs.Ytdblkeeicmncfab
open Go.RowKit

/-- Numbers of 64 bits without a sign, by their form or by what is known. -/
def u64T (G : Asm) (t : IT) : Bool :=
  match t.cl with
  | some z => decide (0 ≤ z) && decide (z < 18446744073709551616)
  | none => match t with
    | .a1 21 _ => true
    | t => G.find (.le (.lit 0) t) == some true && G.find (.le t (.lit 18446744073709551615)) == some true
theorem u64T_spec {E : Env} {G : Asm} (hG : G.holds E) {t : IT} (h : u64T G t = true) : 0 ≤ t.den E ∧ t.den E < 18446744073709551616 := by
  unfold u64T at h
  split at h
  · rename_i z hz
    rw [Bool.and_eq_true, decide_eq_true_iff, decide_eq_true_iff] at h
    rw [IT.cl_spec hz]
    exact h
  · split at h
    · rename_i x _
      show 0 ≤ IntKind.u64.wrap (x.den E) ∧ IntKind.u64.wrap (x.den E) < 18446744073709551616
      rw [IntKind.wrap_u64]
      omega
    · rw [Bool.and_eq_true, beq_iff_eq, beq_iff_eq] at h
      have f1 := of_decide_eq_true (Asm.find_spec hG h.1)
      have f2 := of_decide_eq_true (Asm.find_spec hG h.2)
      simp only [IT.den] at f1 f2
      omega
def kMul64 : Con
  | [.val false [.n .u64 a], .val false [.n .u64 b]], G => if u64T G a && u64T G b then some (.tup [(false, [.n .u64 (IT.a2 19 a b).fold]), (false, [.n .u64 (IT.a1 21 (.a2 2 a b)).fold])]) else none
  | _, _ => none
theorem kMul64_ok {E : Env} : ConOK Try.prog E 47 kMul64 := by
  refine ⟨?_, ?_, ⟨_, Try.func47, by decide +kernel, by kernel_rfl⟩⟩
  · intro args G r h hG β w vs hv hlen
    unfold kMul64 at h
    split at h
    · rename_i a b
      split at h
      · rename_i hc
        rw [Bool.and_eq_true] at hc
        obtain ⟨a1, a2⟩ := u64T_spec hG hc.1
        obtain ⟨b1, b2⟩ := u64T_spec hG hc.2
        injection h with h
        subst h
        obtain ⟨v, u, rfl, h1, h2⟩ := args2 hv hlen
        have h1' := one_num.1 h1
        have h2' := one_num.1 h2
        obtain ⟨x, hx⟩ : ∃ x : Nat, a.den E = (x : Int) := ⟨(a.den E).toNat, by omega⟩
        obtain ⟨y, hy⟩ : ∃ y : Nat, b.den E = (y : Int) := ⟨(b.den E).toNat, by omega⟩
        rw [hx] at h1'
        rw [hy] at h2'
        subst h1' h2'
        refine (mul64_calls w x y (by omega) (by omega)).mono ?_
        rintro e w' ⟨rfl, rfl⟩
        refine ⟨_, rfl, ⟨[_, _], rfl, _, _, rfl, one_num.2 ?_, _, _, rfl, one_num.2 ?_, rfl⟩, Ext.refl _⟩
        · rw [IT.fold_den]
          show _ = Value.int .u64 (a.den E * b.den E / 18446744073709551616)
          rw [hx, hy, Int.natCast_ediv, Int.natCast_mul]; rfl
        · rw [IT.fold_den]
          show _ = Value.int .u64 (IntKind.u64.wrap (a.den E * b.den E))
          rw [hx, hy, IntKind.wrap_u64, Int.natCast_emod, Int.natCast_mul]; rfl
      · cases h
    · cases h
  · intro args G r h x off
    unfold kMul64 at h
    split at h
    · split at h
      · injection h with h; subst h; intro e; cases e
      · cases h
    · cases h
def i64R (x : IT) : BT := .and (.le (.lit (-9223372036854775808)) x) (.le x (.lit 9223372036854775807))
def kI64 : Con
  | [.val true [.int x _]], G => match (i64R x.fold).ev G with
    | some true => some (.tup [(false, [.n .i64 x.fold]), (false, [.b (.lit true)])])
    | some false => some (.tup [(false, [.n .i64 (.lit 0)]), (false, [.b (.lit false)])])
    | none => none
  | _, _ => none
theorem kI64_ok {E : Env} {f : Nat} (hc : ∀ (w : World) (v : Value) (z : Int), IsInt w v z → Calls Try.prog f #[v] w fun e w' => e = .returned (.tuple #[.int .i64 (i64v z), .bool (i64ok z)]) ∧ Ext w w')
    (hb : ∃ fn, Try.prog.funcs[f]? = some fn ∧ fn.name ≠ "runtime.NumGoroutine" ∧ fn.body.isNone = false) : ConOK Try.prog E f kI64 := by
  refine ⟨?_, ?_, hb⟩
  · intro args G r h hG β w vs hv hlen
    unfold kI64 at h
    split at h
    · rename_i x l
      have hev : ∀ b, (i64R x.fold).ev G = some b → i64ok (x.den E) = b := by
        intro b hb
        have := BT.ev_spec hG hb
        rw [← this]
        show _ = (decide (-9223372036854775808 ≤ x.fold.den E) && decide (x.fold.den E ≤ 9223372036854775807))
        rw [IT.fold_den]
        unfold i64ok
        rw [Bool.decide_and]
      obtain ⟨v, u, rfl⟩ : ∃ v, ∃ _u : Unit, vs = [v] := by
        match vs, hlen with
        | [v], _ => exact ⟨v, (), rfl⟩
      obtain ⟨v', hv', h1⟩ := hv 0 _ rfl
      injection hv' with hv'
      subst hv'
      obtain ⟨i1, _⟩ := one_int.1 h1
      split at h
      · rename_i ho
        injection h with h
        subst h
        have hk := hev _ ho
        refine (hc w v _ i1).mono ?_
        rintro e w' ⟨rfl, ex⟩
        refine ⟨_, rfl, ⟨[_, _], rfl, _, _, rfl, one_num.2 ?_, _, _, rfl, one_bool.2 (by rw [hk]; rfl), rfl⟩, ex⟩
        rw [IT.fold_den]
        unfold i64v
        rw [if_pos (of_decide_eq_true hk)]
      · rename_i ho
        injection h with h
        subst h
        have hk := hev _ ho
        refine (hc w v _ i1).mono ?_
        rintro e w' ⟨rfl, ex⟩
        refine ⟨_, rfl, ⟨[_, _], rfl, _, _, rfl, one_num.2 ?_, _, _, rfl, one_bool.2 (by rw [hk]; rfl), rfl⟩, ex⟩
        unfold i64v
        rw [if_neg (of_decide_eq_false hk)]; rfl
      · cases h
    · cases h
  · intro args G r h x off
    unfold kI64 at h
    split at h
    · split at h
      · injection h with h; subst h; intro e; cases e
      · injection h with h; subst h; intro e; cases e
      · cases h
    · cases h
end Go.Proofs.Ytdblkeeicmncfab
end

/- ---- Flb ---- -/
section
/-
  Package filter: the square root with floats, at one number.
-/
set_option maxRecDepth 100000
namespace Go.Proofs.Ytdblkeeicmncfab
open Go.RowKit

theorem mathSqrt_calls (w : World) (x r : Nat) (h : FloatKind.f64.format.sqrt x = some r) : Calls Try.prog 89 #[.float .f64 x] w fun e w' => e = .returned (.float .f64 r) ∧ Ext w w' := by
  go_enter Try.func89, Try.ntmps89
  go_wp2_with fail
  rw [run_callFunc_extern Try.func102 (by kernel_rfl) (by kernel_rfl) (by kernel_rfl) (show Extern.find Try.f102 = some Extern.MathSqrt.sqrt by kernel_rfl)]
  have hr : (Extern.MathSqrt.sqrt #[.float .f64 x]).run Try.prog w = .ok (.float .f64 r) w := by
    change Sem.run _ (match FloatKind.f64.format.sqrt x with | some r => (pure (.float .f64 r) : Sem Value) | none => do pure (.float .f64 (← choose (.nanBits .f64 x x)))) w = _
    rw [h]
    rfl
  rw [hr]
  simp only [Result.andThen, Oper.upon_value]
  go_wp2
  go_ret
  exact ⟨rfl, Ext.refl w⟩
theorem csq_2 (w : World) : Calls Try.prog 90 #[.int .u64 92681, .int .u64 0, .int .u64 8589934592] w fun e w' => e = .returned (.int .i64 (-1)) ∧ Ext w w' := by
  refine (fun_sound (C := cfgOf [(47, kMul64)]) (E := qE []) (G := []) (args := [.val false [.n .u64 (.lit 92681)], .val false [.n .u64 (.lit 0)], .val false [.n .u64 (.lit 8589934592)]]) (T := .leaf [(false, [.n .i64 (.lit (-1))])])
    mixed (cfg_ok (.cons kMul64_ok .nil)) no_asm Try.func90 (by decide +kernel) (by kernel_rfl) (by decide +kernel) rfl w [.int .u64 92681, .int .u64 0, .int .u64 8589934592] rfl ?_).mono ?_
  · intro i x hx
    match i, hx with
    | 0, hx => injection hx with hx; subst hx; exact ⟨fun _ => 0, _, rfl, one_num.2 rfl⟩
    | 1, hx => injection hx with hx; subst hx; exact ⟨fun _ => 0, _, rfl, one_num.2 rfl⟩
    | 2, hx => injection hx with hx; subst hx; exact ⟨fun _ => 0, _, rfl, one_num.2 rfl⟩
  · rintro e w' ⟨β, u, rfl, hh, ex⟩
    have h1 : u = .int .i64 (-1) := one_num.1 hh
    rw [h1]
    exact ⟨rfl, ex⟩
/-- The square root of 2, as the program finds it. -/
theorem fsqrt_2 (w : World) : Calls Try.prog 62 #[.int .i64 131072] w fun e w' => e = .returned (.tuple #[.int .u64 92681, .bool false]) ∧ Ext w w' := by
  go_enter Try.func62, Try.ntmps62
  go_wp2_with fail
  refine (mul64_calls w 131072 65536 (by omega) (by omega)).mono ?_
  rintro e w' ⟨rfl, rfl⟩
  go_wp2_with fail
  have hm := run_float_arith (P := Try.prog) w' .mul 118 .f64 4683743612465315840 4679240012837945344 4755801206503243776 (by decide +kernel)
  have he : floatOfInt .f64 131072 = 4683743612465315840 := by decide +kernel
  rw [he, hm]
  simp only [Result.andThen_ok, Oper.upon_value]
  clear hm he
  go_wp2_with fail
  refine (mathSqrt_calls w' 4755801206503243776 4681105464883100621 (by decide +kernel)).mono ?_
  rintro e w2 ⟨rfl, ex⟩
  go_wp2_with fail
  rw [run_convert_float_int (P := Try.prog) (w := w2) 118 78 .f64 .u64 4681105464883100621 92681 (by kernel_rfl) Try.underlying78 (by decide +kernel)]
  simp only [Result.andThen_ok, Oper.upon_value]
  go_wp2_with fail
  refine (csq_2 w2).mono ?_
  rintro e w3 ⟨rfl, ex3⟩
  go_wp2_with fail
  refine (csq_2 w3).mono ?_
  rintro e w4 ⟨rfl, ex4⟩
  go_wp2_with fail
  go_ret2
  exact ⟨rfl, ex.trans (ex3.trans ex4)⟩
end Go.Proofs.Ytdblkeeicmncfab
end

/- ---- Rdy ---- -/
section
/-
  Valid, of any struct.
-/
set_option maxRecDepth 100000
namespace Go.Proofs.Ytdblkeeicmncfab
open Go.RowKit

/-- Two structs in a rational number's place, whatever they hold. -/
def RawQ (w : World) (v : Value) (s1 : Bool) (xs1 : List Nat) (s2 : Bool) (xs2 : List Nat) : Prop :=
  ∃ a b c d, v = .agg #[a, b, c, d] ∧ Raw w (.agg #[a, b]) s1 xs1 ∧ Raw w (.agg #[c, d]) s2 xs2
def rE (l : List (Bool × List Nat)) : Env := ⟨fun _ => 0, fun _ => false, fun i => l.getD i (false, []), fun _ => []⟩
def argRaw (i j : Nat) : AV := .val true [.raw i, .raw j]
theorem argRaw_holds {E : Env} {β : Nat → Nat} {w : World} {v : Value} {s1 s2 : Bool} {xs1 xs2 : List Nat} {i j : Nat} (h : RawQ w v s1 xs1 s2 xs2) (e1 : E.r i = (s1, xs1)) (e2 : E.r j = (s2, xs2)) : (argRaw i j).holds E β w v := by
  obtain ⟨a, b, c, d, rfl, h1, h2⟩ := h
  refine ⟨[a, b, c, d], rfl, [a, b], [c, d], rfl, ⟨a, b, rfl, ?_⟩, [c, d], [], rfl, ⟨c, d, rfl, ?_⟩, rfl⟩
  · rw [e1]; exact h1
  · rw [e2]; exact h2
/-- Valid, of integers and of any structs. -/
def kRV : Con
  | [.val true [.raw i]], _ => some (.val false [.b (.ok i)])
  | [.val true [.int _ _]], _ => some (.val false [.b (.lit true)])
  | _, _ => none
theorem kRV_ok {E : Env} {f : Nat} (hc : ∀ (w : World) (v : Value) (s : Bool) (xs : List Nat), Raw w v s xs → Calls Try.prog f #[v] w fun e w' => e = .returned (.bool (okB s xs)) ∧ Ext w w')
    (hb : ∃ fn, Try.prog.funcs[f]? = some fn ∧ fn.name ≠ "runtime.NumGoroutine" ∧ fn.body.isNone = false) : ConOK Try.prog E f kRV := by
  refine ⟨?_, ?_, hb⟩
  · intro args As r h hG β w vs hv hlen
    unfold kRV at h
    split at h
    · rename_i i
      injection h with h
      subst h
      obtain ⟨v, rfl, us, rfl, l1, r1, rfl, ⟨x, y, rfl, hr⟩, hn⟩ := args1 hv hlen
      simp only [chunks] at hn
      subst hn
      refine (hc w _ _ _ hr).mono ?_
      rintro e w' ⟨rfl, ex⟩
      exact ⟨_, rfl, one_bool.2 rfl, ex⟩
    · injection h with h
      subst h
      obtain ⟨v, rfl, h1⟩ := args1 hv hlen
      obtain ⟨ao, cap, s, n, rfl, k1, k2, k3, H4, H5, H6⟩ := (one_int.1 h1).1.open_
      obtain ⟨j1, j2⟩ := isInt_raw k1 k2 k3 H6.out
      refine (hc w _ _ _ j1).mono ?_
      rintro e w' ⟨rfl, ex⟩
      exact ⟨_, rfl, one_bool.2 (by rw [j2]; rfl), ex⟩
    · cases h
  · intro args As r h x off
    unfold kRV at h
    split at h
    · injection h with h; subst h; intro e; cases e
    · injection h with h; subst h; intro e; cases e
    · cases h
def okQ (s1 : Bool) (xs1 : List Nat) (s2 : Bool) (xs2 : List Nat) : Bool :=
  okB s1 xs1 && okB s2 xs2 && decide (0 < sgn s2 (val xs2)) && decide (Nat.gcd (sgn s1 (val xs1)).natAbs (sgn s2 (val xs2)).natAbs = 1)
def tabRV : List (Nat × Con) := (71, kRV) :: (72, kIIb fun x y => .eq x y) :: (74, k0 (.lit 1) 3) :: tabR2
theorem tabRV_ok {E : Env} : TabOK Try.prog E tabRV :=
  .cons (kRV_ok (fun w v s xs h => rvalid_calls w v s xs h) ⟨_, Try.func71, by decide +kernel, by kernel_rfl⟩)
    (.cons (kIIb_ok (fun x y => x == y) (fun _ _ => rfl) (fun w v1 v2 z1 z2 h1 h2 => (rsame_calls w v1 v2 z1 z2 h1 h2).mono (fun e w' h => ⟨by rw [h.1]; by_cases hz : z1 = z2 <;> simp [hz], h.2⟩)) ⟨_, Try.func72, by decide +kernel, by kernel_rfl⟩)
      (.cons (k0_ok 1 rfl (fun w => unit_calls w) (lim3 (by decide) (by decide)) ⟨_, Try.func74, by decide +kernel, by kernel_rfl⟩) tabR2_ok))
/-- A walk with any structs, where one of them is not valid. -/
theorem walkRaw {tab : List (Nat × Con)} {f : Nat} {fn : Func} {G : Asm} {w : World} {v : Value} {s1 s2 : Bool} {xs1 xs2 : List Nat} (ht : TabOK Try.prog (rE [(s1, xs1), (s2, xs2)]) tab) (hG : G.holds (rE [(s1, xs1), (s2, xs2)])) (hf : Try.prog.funcs[f]? = some fn)
    (hT : funE (cfgOf tab) fn G [argRaw 0 1] = some (.leaf [(false, [.b (.lit false)])])) (h4 : fn.results.toList.length ≤ 4) (hn : 1 ≤ fn.ntmps) (h : RawQ w v s1 xs1 s2 xs2) :
    Calls Try.prog f #[v] w fun e w' => e = .returned (.bool false) ∧ Ext w w' := by
  refine (fun_sound mixed (cfg_ok ht) hG hf h4 hT hn rfl w [v] rfl ?_).mono ?_
  · intro i x hx
    match i, hx with
    | 0, hx => injection hx with hx; subst hx; exact ⟨fun _ => 0, v, rfl, argRaw_holds h rfl rfl⟩
  · rintro e w' ⟨β, u, rfl, hh, ex⟩
    have := one_bool.1 hh
    subst this
    exact ⟨rfl, ex⟩
theorem asm1 {E : Env} {t : BT} {b : Bool} (h : t.den E = b) : Asm.holds E [(t, b)] := by
  intro p hp
  simp only [List.mem_cons, List.not_mem_nil, or_false] at hp
  subst hp
  exact h
theorem asm2 {E : Env} {t u : BT} {b c : Bool} (h : t.den E = b) (k : u.den E = c) : Asm.holds E [(t, b), (u, c)] := by
  intro p hp
  simp only [List.mem_cons, List.not_mem_nil, or_false] at hp
  rcases hp with rfl | rfl
  · exact h
  · exact k
theorem okQ_pair {w : World} {v : Value} {s1 s2 : Bool} {xs1 xs2 : List Nat} (h : RawQ w v s1 xs1 s2 xs2) (b1 : okB s1 xs1 = true) (b2 : okB s2 xs2 = true) : IsPair w v (sgn s1 (val xs1)) (sgn s2 (val xs2)) := by
  obtain ⟨a, b, c, d, rfl, h1, h2⟩ := h
  exact ⟨a, b, c, d, rfl, (okB_int h1 b1).1, (okB_int h2 b2).1⟩
theorem ok_lim {w : World} {v : Value} {s : Bool} {xs : List Nat} {k : Nat} (h : Raw w v s xs) (b : okB s xs = true) (l : xs.length ≤ k) : Lim k (sgn s (val xs)) := by
  have := (okB_int h b).2
  unfold Lim
  rw [natAbs_sgn, this]
  exact l
theorem cmp_pos (d : Int) : (cmpZ d 0 = 1) ↔ 0 < d := by
  rcases cmpZ_cases d 0 with ⟨h, e⟩ | ⟨h, e⟩ | ⟨h, e⟩ <;> rw [e] <;> omega
theorem cmp_pos' (d : Int) : (0 < cmpZ d 0) ↔ 0 < d := by
  rcases cmpZ_cases d 0 with ⟨h, e⟩ | ⟨h, e⟩ | ⟨h, e⟩ <;> rw [e] <;> omega
theorem rvalid_rat_calls (w : World) (v : Value) (s1 s2 : Bool) (xs1 xs2 : List Nat) (h : RawQ w v s1 xs1 s2 xs2) (l1 : xs1.length ≤ 100000) (l2 : xs2.length ≤ 100000) :
    Calls Try.prog 44 #[v] w fun e w' => e = .returned (.bool (okQ s1 xs1 s2 xs2)) ∧ Ext w w' := by
  cases b1 : okB s1 xs1 with
  | false =>
    have e0 : okQ s1 xs1 s2 xs2 = false := by unfold okQ; rw [b1]; rfl
    rw [e0]
    exact walkRaw tabRV_ok (asm1 (t := .ok 0) b1) Try.func44 (by kernel_rfl) (by decide +kernel) (by decide +kernel) h
  | true =>
    cases b2 : okB s2 xs2 with
    | false =>
      have e0 : okQ s1 xs1 s2 xs2 = false := by unfold okQ; rw [b1, b2]; rfl
      rw [e0]
      exact walkRaw tabRV_ok (asm2 (t := .ok 0) (u := .ok 1) b1 b2) Try.func44 (by kernel_rfl) (by decide +kernel) (by decide +kernel) h
    | true =>
      have hp := okQ_pair h b1 b2
      have m1 : Lim 100000 (sgn s1 (val xs1)) := by obtain ⟨a, b, c, d, rfl, h1, h2⟩ := h; exact ok_lim h1 b1 l1
      have m2 : Lim 100000 (sgn s2 (val xs2)) := by obtain ⟨a, b, c, d, rfl, h1, h2⟩ := h; exact ok_lim h2 b2 l2
      have e0 : okQ s1 xs1 s2 xs2 = (decide (0 < sgn s2 (val xs2)) && decide (Nat.gcd (sgn s1 (val xs1)).natAbs (sgn s2 (val xs2)).natAbs = 1)) := by unfold okQ; rw [b1, b2]; rfl
      rw [e0]
      generalize sgn s1 (val xs1) = n at *
      generalize sgn s2 (val xs2) = d at *
      refine (fun_sound (C := cfgOf tabRV) (E := zE [n, d]) (args := [argQ 0]) (T := .ite (.eq (.a2 3 (.var 1) (.lit 0)) (.lit 1)) (.leaf [(false, [.b (.eq (.a2 6 (.var 0) (.var 1)) (.lit 1))])]) (.leaf [(false, [.b (.lit false)])]))
        mixed (cfg_ok tabRV_ok) no_asm Try.func44 (by decide +kernel) (by kernel_rfl) (by decide +kernel) rfl w [v] rfl ?_).mono ?_
      · intro i x hx
        match i, hx with
        | 0, hx => injection hx with hx; subst hx; exact ⟨fun _ => 0, v, rfl, argP_holds hp m1 m2 rfl rfl⟩
      · rintro e w' ⟨β, u, rfl, hh, ex⟩
        simp only [Tree.pick] at hh
        split at hh
        · rename_i hz
          have hd : 0 < d := (cmp_pos d).1 (eq_of_beq hz)
          have := one_bool.1 hh
          subst this
          rw [decide_eq_true hd, Bool.true_and]
          refine ⟨ret_bool ?_, ex⟩
          show (((Nat.gcd n.natAbs d.natAbs : Nat) : Int) == 1) = _
          by_cases hg : Nat.gcd n.natAbs d.natAbs = 1
          · rw [decide_eq_true hg, beq_iff_eq]; omega
          · rw [decide_eq_false hg, beq_eq_false_iff_ne]; omega
        · rename_i hz
          have hd : ¬ 0 < d := fun e => hz (beq_iff_eq.2 ((cmp_pos d).2 e))
          have := one_bool.1 hh
          subst this
          rw [decide_eq_false hd, Bool.false_and]
          exact ⟨rfl, ex⟩

end Go.Proofs.Ytdblkeeicmncfab
end

/- ---- Rdz ---- -/
section
/-
  Small, of any structs and of rows of them.
-/
set_option maxRecDepth 100000
namespace Go.Proofs.Ytdblkeeicmncfab
open Go.RowKit

/-- Where truth variables say that structs are valid. -/
def VEnv (E : Env) : Prop := ∀ i, i % 2 = 0 → E.b (i / 2) = okQ (E.r i).1 (E.r i).2 (E.r (i + 1)).1 (E.r (i + 1)).2
def kRVQ : Con
  | [.val true [.raw i, .raw j]], G => if i % 2 == 0 && (j == i + 1 && (G.find (.le (.rlen i) (.lit 6)) == some true && G.find (.le (.rlen j) (.lit 6)) == some true)) then some (.val false [.b (.var (i / 2))]) else none
  | _, _ => none
theorem one_raw2 {E : Env} {w : World} {i j : Nat} {v : Value} (h : one E w (true, [.raw i, .raw j]) v) : RawQ w v (E.r i).1 (E.r i).2 (E.r j).1 (E.r j).2 := by
  obtain ⟨us, rfl, l1, r1, rfl, ⟨x, y, rfl, h1⟩, l2, r2, rfl, ⟨z, t, rfl, h2⟩, hn⟩ := h
  simp only [chunks] at hn
  subst hn
  exact ⟨x, y, z, t, rfl, h1, h2⟩
theorem kRVQ_ok {E : Env} (hE : VEnv E) : ConOK Try.prog E 44 kRVQ := by
  refine ⟨?_, ?_, ⟨_, Try.func44, by decide +kernel, by kernel_rfl⟩⟩
  · intro args As r h hG β w vs hv hlen
    unfold kRVQ at h
    split at h
    · rename_i i j
      split at h
      · rename_i hlo
        injection h with h
        subst h
        simp only [Bool.and_eq_true, beq_iff_eq] at hlo
        obtain ⟨hi, rfl, b1, b2⟩ := hlo
        have c1 := of_decide_eq_true (Asm.find_spec hG b1)
        have c2 := of_decide_eq_true (Asm.find_spec hG b2)
        simp only [IT.den] at c1 c2
        obtain ⟨v, rfl, h1⟩ := args1 hv hlen
        refine (rvalid_rat_calls w v _ _ _ _ (one_raw2 h1) (by omega) (by omega)).mono ?_
        rintro e w' ⟨rfl, ex⟩
        exact ⟨_, rfl, one_bool.2 (by rw [← hE i hi]; rfl), ex⟩
      · cases h
    · cases h
  · intro args As r h x off
    unfold kRVQ at h
    split at h
    · split at h
      · injection h with h; subst h; intro e; cases e
      · cases h
    · cases h
/-- What Small says of a rational number's place. -/
def smQ (s1 : Bool) (xs1 : List Nat) (s2 : Bool) (xs2 : List Nat) : Bool := decide (xs1.length ≤ 6) && decide (xs2.length ≤ 6) && okQ s1 xs1 s2 xs2
/-- Structs, and what is said of them. -/
def bE (f : Bool → List Nat → Bool → List Nat → Bool) (l : List (Bool × List Nat)) : Env :=
  ⟨fun _ => 0, fun q => f (l.getD (2 * q) (false, [])).1 (l.getD (2 * q) (false, [])).2 (l.getD (2 * q + 1) (false, [])).1 (l.getD (2 * q + 1) (false, [])).2, fun i => l.getD i (false, []), fun _ => []⟩
theorem bE_ok (l : List (Bool × List Nat)) : VEnv (bE okQ l) := by
  intro i hi
  show okQ (l.getD (2 * (i / 2)) (false, [])).1 _ _ _ = _
  rw [show 2 * (i / 2) = i by omega]
  rfl
end Go.Proofs.Ytdblkeeicmncfab
end

/- ---- Rea ---- -/
section
/-
  The laws' helper that asks whether all of a row is small.
-/
set_option maxRecDepth 100000
namespace Go.Proofs.Ytdblkeeicmncfab
open Go.RowKit

def SEnv (E : Env) : Prop := ∀ i, i % 2 = 0 → E.b (i / 2) = smQ (E.r i).1 (E.r i).2 (E.r (i + 1)).1 (E.r (i + 1)).2
theorem bE_sm (l : List (Bool × List Nat)) : SEnv (bE smQ l) := by
  intro i hi
  show smQ (l.getD (2 * (i / 2)) (false, [])).1 _ _ _ = _
  rw [show 2 * (i / 2) = i by omega]
  rfl
def kSmQ : Con
  | [.val true [.raw i, .raw j], .val false [.n .i64 (.lit z)]], _ => if i % 2 == 0 && (j == i + 1 && z == 6) then some (.val false [.b (.var (i / 2))]) else none
  | _, _ => none
/-- The chunks of a row of n rational numbers' places. -/
def rowC : Nat → List Chunk
  | 0 => []
  | n + 1 => rowC n ++ [.raw (2 * n), .raw (2 * n + 1)]
/-- What small says of a row. -/
def smAll (f : Nat → Bool) : Nat → Bool
  | 0 => true
  | n + 1 => smAll f n && f n
def tSm : Nat → Nat → Tree
  | _, 0 => .leaf [(false, [.b (.lit true)])]
  | k, n + 1 => .ite (.var k) (tSm (k + 1) n) (.leaf [(false, [.b (.lit false)])])
theorem tSm_pick {E : Env} : ∀ (n k : Nat), ∃ b, (tSm k n).pick E = [(false, [.b (.lit b)])] ∧ (b = true ↔ ∀ i, i < n → E.b (k + i) = true)
  | 0, k => ⟨true, rfl, by simp⟩
  | n + 1, k => by
    obtain ⟨b, h1, h2⟩ := tSm_pick (E := E) n (k + 1)
    cases hk : E.b k with
    | true =>
      refine ⟨b, ?_, ?_⟩
      · show (if E.b k = true then _ else _) = _
        rw [if_pos hk]; exact h1
      · rw [h2]
        constructor
        · intro h i hi
          match i with
          | 0 => exact hk
          | i + 1 => have := h i (by omega); rwa [show k + 1 + i = k + (i + 1) by omega] at this
        · intro h i hi
          have := h (i + 1) (by omega)
          rwa [show k + (i + 1) = k + 1 + i by omega] at this
    | false =>
      refine ⟨false, ?_, ?_⟩
      · show (if E.b k = true then _ else _) = _
        rw [if_neg (by rw [hk]; simp)]; rfl
      · constructor
        · intro h; cases h
        · intro h; have := h 0 (by omega); rw [Nat.add_zero, hk] at this; cases this
end Go.Proofs.Ytdblkeeicmncfab
end

/- ---- Reb ---- -/
section
/-
  A configuration for the laws of rational numbers: awake, small, and the table.
-/
set_option maxRecDepth 100000
namespace Go.Proofs.Ytdblkeeicmncfab
open Go.RowKit

/-- Rows, told by their form. -/
def isRaw : Nat → List Chunk → Bool
  | _, [] => true
  | i, .raw j :: cs => j == i && isRaw (i + 1) cs
  | _, _ => false
theorem isRaw_spec : ∀ {cs : List Chunk} {i : Nat}, isRaw i cs = true → cs = (List.range cs.length).map fun k => .raw (i + k)
  | [], _, _ => rfl
  | .raw j :: cs, i, h => by
    simp only [isRaw, Bool.and_eq_true, beq_iff_eq] at h
    obtain ⟨rfl, h⟩ := h
    have := isRaw_spec h
    rw [List.length_cons, List.range_succ_eq_map, List.map_cons, List.map_map, Nat.add_zero]
    congr 1
    refine Eq.trans this (List.map_congr_left fun k _ => ?_)
    show Chunk.raw _ = Chunk.raw _
    rw [show j + 1 + k = j + (k + 1) by omega]
  | .b _ :: _, _, h | .n _ _ :: _, _, h | .int _ _ :: _, _, h | .mag _ _ :: _, _, h | .rmag _ :: _, _, h | .fn _ :: _, _, h | .nilSlice :: _, _, h | .str _ _ :: _, _, h => by cases h
def smF (n : Nat) (cs : List Chunk) (off : Nat) : Option Bool := if isRaw 0 cs && (cs.length == 2 * n && off == big + n) then some false else none
end Go.Proofs.Ytdblkeeicmncfab
end

/- ---- Rec ---- -/
section
/-
  RationalArithmetic, given that awake is true.
-/
set_option maxRecDepth 100000
namespace Go.Proofs.Ytdblkeeicmncfab
open Go.RowKit

theorem int_raw {w : World} {v : Value} {z : Int} (h : IsInt w v z) : Raw w v (decide (z < 0)) (limbs z.natAbs) ∧ okB (decide (z < 0)) (limbs z.natAbs) = true := by
  obtain ⟨ao, cap, s, n, rfl, h1, h2, h3, H4, H5, H6⟩ := h.open_
  obtain ⟨k1, k2⟩ := isInt_raw h1 h2 h3 H6.out
  have e4 : n = z.natAbs := H4.out
  have e5 : z = sgn s n := H5.out
  have e6 := H6.out
  have es : s = decide (z < 0) := by
    cases s with
    | true => rw [eq_comm, decide_eq_true_iff, e5]; have := e6 rfl; simp [sgn]; omega
    | false => rw [eq_comm, decide_eq_false_iff_not, e5]; simp [sgn]
  rw [← e4, ← es]
  exact ⟨k1, k2⟩
def rawOf (q : Rat) : List (Bool × List Nat) := [(decide (q.num < 0), limbs q.num.natAbs), (decide ((q.den : Int) < 0), limbs (q.den : Int).natAbs)]
theorem smQ_of {q : Rat} (l : LimQ 6 q) {w : World} {v : Value} (h : IsRat w v q) : smQ (decide (q.num < 0)) (limbs q.num.natAbs) (decide ((q.den : Int) < 0)) (limbs (q.den : Int).natAbs) = true := by
  obtain ⟨a, b, c, d, rfl, h1, h2⟩ := h
  obtain ⟨_, k1⟩ := int_raw h1
  obtain ⟨_, k2⟩ := int_raw h2
  have e1 : sgn (decide (q.num < 0)) (val (limbs q.num.natAbs)) = q.num := by rw [val_limbs]; exact sgn_self q.num
  have e2 : sgn (decide ((q.den : Int) < 0)) (val (limbs (q.den : Int).natAbs)) = (q.den : Int) := by rw [val_limbs]; exact sgn_self (q.den : Int)
  have l1 : (limbs q.num.natAbs).length ≤ 6 := l.1
  have l2 : (limbs (q.den : Int).natAbs).length ≤ 6 := l.2
  unfold smQ okQ
  rw [k1, k2, e1, e2, decide_eq_true l1, decide_eq_true l2, decide_eq_true (show 0 < (q.den : Int) by have := q.den_pos; omega)]
  rw [decide_eq_true (show Nat.gcd q.num.natAbs (q.den : Int).natAbs = 1 from q.reduced)]
  rfl
/-- Rows of integers, told by their form. -/
def isVars : Nat → List Chunk → Bool
  | _, [] => true
  | i, .int (.var j) l :: cs => (j == i && l == 6) && isVars (i + 1) cs
  | _, _ => false
def smT (n : Nat) (cs : List Chunk) (off : Nat) : Option Bool := if isVars 0 cs && (cs.length == 2 * n && off == big + n) then some true else none
theorem isVars_spec : ∀ {cs : List Chunk} {i : Nat}, isVars i cs = true → cs = (List.range cs.length).map fun k => .int (.var (i + k)) 6
  | [], _, _ => rfl
  | .int (.var j) l :: cs, i, h => by
    simp only [isVars, Bool.and_eq_true, beq_iff_eq] at h
    obtain ⟨⟨rfl, rfl⟩, h⟩ := h
    have := isVars_spec h
    rw [List.length_cons, List.range_succ_eq_map, List.map_cons, List.map_map, Nat.add_zero]
    congr 1
    refine Eq.trans this (List.map_congr_left fun k _ => ?_)
    show Chunk.int _ _ = Chunk.int _ _
    rw [show j + 1 + k = j + (k + 1) by omega]
  | .int (.lit _) _ :: _, _, h | .int (.rlen _) _ :: _, _, h | .int (.slen _) _ :: _, _, h | .int (.a1 _ _) _ :: _, _, h | .int (.a2 _ _ _) _ :: _, _, h | .int (.a4 _ _ _ _ _) _ :: _, _, h => by cases h
  | .b _ :: _, _, h | .n _ _ :: _, _, h | .raw _ :: _, _, h | .mag _ _ :: _, _, h | .rmag _ :: _, _, h | .fn _ :: _, _, h | .nilSlice :: _, _, h | .str _ _ :: _, _, h => by cases h
theorem int_chunk {E E' : Env} {w : World} {t : IT} {l i : Nat} {vs : List Value} (h : (Chunk.int t l).holds E w vs) (e : E'.r i = (decide (t.den E < 0), limbs (t.den E).natAbs)) : (Chunk.raw i).holds E' w vs := by
  obtain ⟨x, y, rfl, hI, _⟩ := h
  refine ⟨x, y, rfl, ?_⟩
  rw [e]
  exact (int_raw hI).1
def argS (i : Nat) : AV := .val true [.int (.var (2 * i)) 6, .int (.var (2 * i + 1)) 6]
theorem argS_holds {E : Env} {β : Nat → Nat} {w : World} {v : Value} {q : Rat} {i : Nat} (h : IsRat w v q) (l : LimQ 6 q) (e1 : E.i (2 * i) = q.num) (e2 : E.i (2 * i + 1) = (q.den : Int)) : (argS i).holds E β w v := by
  refine one_pair.2 ⟨?_, ?_, ?_⟩
  · show IsPair w v (E.i (2 * i)) (E.i (2 * i + 1)); rw [e1, e2]; exact h
  · show Lim 6 (E.i (2 * i)); rw [e1]; exact l.1
  · show Lim 6 (E.i (2 * i + 1)); rw [e2]; exact l.2
end Go.Proofs.Ytdblkeeicmncfab
end

/- ---- Red ---- -/
section
/-
  RationalArithmetic at any arguments, given that awake is true.
-/
set_option maxRecDepth 100000
namespace Go.Proofs.Ytdblkeeicmncfab
open Go.RowKit

theorem smQ_rat {w : World} {v : Value} {s1 s2 : Bool} {xs1 xs2 : List Nat} (h : RawQ w v s1 xs1 s2 xs2) (hs : smQ s1 xs1 s2 xs2 = true) : ∃ q : Rat, IsRat w v q ∧ LimQ 6 q := by
  unfold smQ okQ at hs
  simp only [Bool.and_eq_true, decide_eq_true_iff] at hs
  obtain ⟨⟨c1, c2⟩, ⟨⟨b1, b2⟩, b3⟩, b4⟩ := hs
  have hp := okQ_pair h b1 b2
  have m1 : Lim 6 (sgn s1 (val xs1)) := by obtain ⟨a, b, c, d, rfl, h1, h2⟩ := h; exact ok_lim h1 b1 c1
  have m2 : Lim 6 (sgn s2 (val xs2)) := by obtain ⟨a, b, c, d, rfl, h1, h2⟩ := h; exact ok_lim h2 b2 c2
  generalize sgn s1 (val xs1) = n at *
  generalize sgn s2 (val xs2) = d at *
  have hd : ((d.natAbs : Nat) : Int) = d := by omega
  refine ⟨⟨n, d.natAbs, by omega, b4⟩, ?_, m1, ?_⟩
  · show IsPair w v n ((d.natAbs : Nat) : Int)
    rw [hd]; exact hp
  · show Lim 6 ((d.natAbs : Nat) : Int)
    rw [hd]; exact m2
end Go.Proofs.Ytdblkeeicmncfab
end

/- ---- Rfa ---- -/
section
/-
  Sign and Cmp of the reference; small on rows of one and of three; what the laws of one and of three numbers share.
-/
set_option maxRecDepth 100000
namespace Go.Proofs.Ytdblkeeicmncfab
open Go.RowKit

theorem rsign_rat_calls (w : World) (v1 : Value) (n d : Int) (h1 : IsPair w v1 n d) (l1 : Lim 100000 n) (l1' : Lim 100000 d) : Calls Try.prog 29 #[v1] w fun e w' => e = .returned (.int .i64 (cmpZ n 0)) ∧ Ext w w' := by
  refine (fun_sound (E := zE [n, d]) (args := [argQ 0]) (T := .leaf [(false, [.n .i64 (.a2 3 (.var 0) (.lit 0))])])
    mixed (cfg_ok (.cons (kIn_ok (f := 64) (g := fun x => .a2 3 x (.lit 0)) (fun x => cmpZ x 0) (fun _ => rfl) (fun w v z h => rsign_calls w v z h) ⟨_, Try.func64, by decide +kernel, by kernel_rfl⟩) .nil))
    no_asm Try.func29 (by decide +kernel) (by kernel_rfl) (by decide +kernel) rfl w [v1] rfl ?_).mono ?_
  · intro i x hx
    match i, hx with
    | 0, hx => injection hx with hx; subst hx; exact ⟨fun _ => 0, v1, rfl, argP_holds h1 l1 l1' rfl rfl⟩
  · rintro e w' ⟨β, v, rfl, hh, ex⟩
    have := one_num.1 hh
    subst this
    exact ⟨rfl, ex⟩
theorem kSgF_ok {E : Env} {f : Nat} (hc : ∀ (w : World) (v1 : Value) (n d : Int), IsPair w v1 n d → Lim 100000 n → Lim 100000 d → Calls Try.prog f #[v1] w fun e w' => e = .returned (.int .i64 (cmpZ n 0)) ∧ Ext w w')
    (hb : ∃ fn, Try.prog.funcs[f]? = some fn ∧ fn.name ≠ "runtime.NumGoroutine" ∧ fn.body.isNone = false) : ConOK Try.prog E f kSg := by
  refine ⟨?_, ?_, hb⟩
  · intro args As r h hG β w vs hv hlen
    unfold kSg at h
    split at h
    · split at h
      · rename_i hlo
        injection h with h
        subst h
        simp only [Bool.and_eq_true, decide_eq_true_iff] at hlo
        obtain ⟨v, rfl, h1⟩ := args1 hv hlen
        obtain ⟨p1, a1, a2⟩ := one_pair.1 h1
        refine (hc w v _ _ p1 (a1.mono hlo.1) (a2.mono hlo.2)).mono ?_
        rintro e w' ⟨rfl, ex⟩
        exact ⟨_, rfl, one_num.2 rfl, ex⟩
      · cases h
    · cases h
  · intro args As r h x off
    unfold kSg at h
    split at h
    · split at h
      · injection h with h; subst h; intro e; cases e
      · cases h
    · cases h
theorem rcmp_rat_calls (w : World) (v1 v2 : Value) (a b : Rat) (h1 : IsRat w v1 a) (h2 : IsRat w v2 b) (l1 : LimQ 100000 a) (l2 : LimQ 100000 b) :
    Calls Try.prog 31 #[v1, v2] w fun e w' => e = .returned (.int .i64 (cmpZ (a.num * (b.den : Int)) (b.num * (a.den : Int)))) ∧ Ext w w' := by
  refine (walkQ2 (T := .leaf [(false, [.n .i64 (.a2 3 (.a2 2 (.var 0) (.var 3)) (.a2 2 (.var 2) (.var 1)))])])
    (tab := (59, kIIn (.a2 3)) :: tabR3 true)
    (.cons (kIIn_ok cmpZ (fun _ _ => rfl) (fun w v1 v2 z1 z2 h1 h2 => rcmp_calls w v1 v2 z1 z2 h1 h2) ⟨_, Try.func59, by decide +kernel, by kernel_rfl⟩) (tabR3_ok (q := true) (fun _ => qE_ok _)))
    Try.func31 (by kernel_rfl) (by decide +kernel) (by decide +kernel) h1 h2 l1 l2).mono ?_
  rintro e w' ⟨β, v, rfl, hh, ex⟩
  have := one_num.1 hh
  subst this
  exact ⟨rfl, ex⟩
def tabT : List (Nat × Con) :=
  (29, kSg)  ::
  
  (31, kCmpQ)  ::
  
  tabQ
theorem tabT_ok {E : Env} (hE : QEnv E) : TabOK Try.prog E tabT := by
  refine .cons (kSgF_ok (fun w v1 n d h l m => rsign_rat_calls w v1 n d h l m) ⟨_, Try.func29, by decide +kernel, by kernel_rfl⟩) ?_ 
  
  refine .cons (kCmpQ_ok hE (fun w v1 v2 a b h1 h2 l1 l2 => rcmp_rat_calls w v1 v2 a b h1 h2 l1 l2) ⟨_, Try.func31, by decide +kernel, by kernel_rfl⟩) ?_
  
  exact tabQ_ok hE

def smOf (a : Rat) : Prop := smQ (decide (a.num < 0)) (limbs a.num.natAbs) (decide ((a.den : Int) < 0)) (limbs (a.den : Int).natAbs) = true
/-- A law of one number, of two, of three numbers: small numbers, or others. -/
def IsTrue (w : World) (e : Ending) (w' : World) : Prop := e = .returned (.bool true) ∧ Ext w w'
/-- Terms for the parts of rational numbers, and what they mean. -/
abbrev IT2 := IT × IT
def qv (i : Nat) : IT2 := (.var (2 * i), .var (2 * i + 1))
def qop (f : Nat) (p q : IT2) : IT2 := (.a4 (2 * f) p.1 p.2 q.1 q.2, .a4 (2 * f + 1) p.1 p.2 q.1 q.2)
def qsame (p q : IT2) : BT := .and (.eq p.1 q.1) (.eq p.2 q.2)
def RepQ (E : Env) (p : IT2) (q : Rat) : Prop := p.1.den E = q.num ∧ p.2.den E = (q.den : Int)
theorem rep_op {E : Env} {f : Nat} {p q : IT2} {a b : Rat} (hf : f ≠ 4) (hp : RepQ E p a) (hq : RepQ E q b) : RepQ E (qop f p q) (ratF f a b) := by
  constructor
  · show fn4 (2 * f) (p.1.den E) (p.2.den E) (q.1.den E) (q.2.den E) = _
    rw [hp.1, hp.2, hq.1, hq.2, fn4_num (by omega), show 2 * f / 2 = f by omega]
  · show fn4 (2 * f + 1) (p.1.den E) (p.2.den E) (q.1.den E) (q.2.den E) = _
    rw [hp.1, hp.2, hq.1, hq.2, fn4_den (by omega) (by omega), show (2 * f + 1) / 2 = f by omega]
theorem rep_div {E : Env} {p q : IT2} {a b : Rat} (hb : b ≠ 0) (hp : RepQ E p a) (hq : RepQ E q b) : RepQ E (qop 4 p q) (a / b) := by
  constructor
  · show fn4 8 (p.1.den E) (p.2.den E) (q.1.den E) (q.2.den E) = _
    rw [hp.1, hp.2, hq.1, hq.2, fn4_num rfl]; rfl
  · show fn4 9 (p.1.den E) (p.2.den E) (q.1.den E) (q.2.den E) = _
    rw [hp.1, hp.2, hq.1, hq.2]
    unfold fn4
    rw [if_neg (by decide), divInt_parts, divInt_parts, if_neg (fun e => hb e.2)]
    rfl
theorem rep_same {E : Env} {p q : IT2} {a b : Rat} (hp : RepQ E p a) (hq : RepQ E q b) (h : a = b) : (qsame p q).den E = true := by
  subst h
  show (p.1.den E == q.1.den E && p.2.den E == q.2.den E) = true
  rw [hp.1, hp.2, hq.1, hq.2]
  simp
theorem rep_v {l : List Rat} {i : Nat} : RepQ (qE l) (qv i) (l.getD i 0) := by
  constructor
  · show (if 2 * i % 2 = 0 then _ else _) = _
    rw [if_pos (by omega), show 2 * i / 2 = i by omega]
  · show (if (2 * i + 1) % 2 = 0 then _ else _) = _
    rw [if_neg (by omega), show (2 * i + 1) / 2 = i by omega]
end Go.Proofs.Ytdblkeeicmncfab
end

/- ---- Flc ---- -/
section
/-
  Package filter: awake.
-/
set_option maxRecDepth 100000
namespace Go.Proofs.Ytdblkeeicmncfab
open Go.RowKit

def kSqF : Con
  | [.val false [.n .i64 t]], _ => match t.cl with
    | some z => if z = 131072 then some (.tup [(false, [.n .u64 (.lit 92681)]), (false, [.b (.lit false)])]) else none
    | none => none
  | _, _ => none
theorem kSqF_ok {E : Env} : ConOK Try.prog E 62 kSqF := by
  refine ⟨?_, ?_, ⟨_, Try.func62, by decide +kernel, by kernel_rfl⟩⟩
  · intro args G r h hG β w vs hv hlen
    unfold kSqF at h
    split at h
    · rename_i t
      split at h
      · rename_i z hz
        split at h
        · rename_i hz2
          subst hz2
          injection h with h
          subst h
          obtain ⟨v, rfl, h1⟩ := args1 hv hlen
          have h1' : v = .int .i64 (t.den E) := one_num.1 h1
          rw [IT.cl_spec hz] at h1'
          subst h1'
          refine (fsqrt_2 w).mono ?_
          rintro e w' ⟨rfl, ex⟩
          exact ⟨_, rfl, ⟨[_, _], rfl, _, _, rfl, one_num.2 rfl, _, _, rfl, one_bool.2 rfl, rfl⟩, ex⟩
        · cases h
      · cases h
    · cases h
  · intro args G r h x off
    unfold kSqF at h
    split at h
    · split at h
      · split at h
        · injection h with h; subst h; intro e; cases e
        · cases h
      · cases h
    · cases h
noncomputable def tabF : List (Nat × Con) := (45, kI64) :: (47, kMul64) :: (65, kIn fun x => .a2 3 x (.lit 0)) :: tabT
theorem tabF_ok {E : Env} (hE : QEnv E) : TabOK Try.prog E tabF :=
  .cons (kI64_ok (fun w v z h => int64_calls w v z h) ⟨_, Try.func45, by decide +kernel, by kernel_rfl⟩) <|
  .cons kMul64_ok <| .cons (kIn_ok (cmpZ · 0) (fun _ => rfl) (fun w v1 z1 h1 => sign_calls w v1 z1 h1) ⟨_, Try.func65, by decide +kernel, by kernel_rfl⟩) (tabT_ok hE)
noncomputable def fL1 : List (Nat × Func) := [(48, Try.f48), (50, Try.f50), (51, Try.f51), (49, Try.f49), (21, Try.f21), (34, Try.f34), (30, Try.f30)]
noncomputable def fL2 : List (Nat × Func) := [(13, Try.f13), (58, Try.f58), (18, Try.f18), (27, Try.f27)]
noncomputable def fL3 : List (Nat × Func) := [(23, Try.f23)]
noncomputable def fL4 : List (Nat × Func) := [(66, Try.f66)]
noncomputable def fL5 : List (Nat × Func) := [(32, Try.f32)]
noncomputable def fL6 : List (Nat × Func) := [(67, Try.f67)]
noncomputable def fL7 : List (Nat × Func) := [(37, Try.f37)]
theorem fL1_ok : InlOK Try.prog fL1 :=
  .cons Try.func48 (by decide +kernel) (by kernel_rfl) <| .cons Try.func50 (by decide +kernel) (by kernel_rfl) <| .cons Try.func51 (by decide +kernel) (by kernel_rfl) <| .cons Try.func49 (by decide +kernel) (by kernel_rfl) <|
  .cons Try.func21 (by decide +kernel) (by kernel_rfl) <| .cons Try.func34 (by decide +kernel) (by kernel_rfl) <| .cons Try.func30 (by decide +kernel) (by kernel_rfl) .nil
theorem fL2_ok : InlOK Try.prog fL2 :=
  .cons Try.func13 (by decide +kernel) (by kernel_rfl) <| .cons Try.func58 (by decide +kernel) (by kernel_rfl) <| .cons Try.func18 (by decide +kernel) (by kernel_rfl) <| .cons Try.func27 (by decide +kernel) (by kernel_rfl) .nil
theorem fL3_ok : InlOK Try.prog fL3 := .cons Try.func23 (by decide +kernel) (by kernel_rfl) .nil
theorem fL4_ok : InlOK Try.prog fL4 := .cons Try.func66 (by decide +kernel) (by kernel_rfl) .nil
theorem fL5_ok : InlOK Try.prog fL5 := .cons Try.func32 (by decide +kernel) (by kernel_rfl) .nil
theorem fL6_ok : InlOK Try.prog fL6 := .cons Try.func67 (by decide +kernel) (by kernel_rfl) .nil
theorem fL7_ok : InlOK Try.prog fL7 := .cons Try.func37 (by decide +kernel) (by kernel_rfl) .nil
noncomputable def cF0 (tab : List (Nat × Con)) : Cfg := cfgT3 (tab ++ tabF) fL1 fL2 fL3
noncomputable def cF4 (tab : List (Nat × Con)) : Cfg := cfgI (cF0 tab) (cF0 tab) fL4
noncomputable def cF5 (tab : List (Nat × Con)) : Cfg := cfgI (cF4 tab) (cF4 tab) fL5
noncomputable def cF6 (tab : List (Nat × Con)) : Cfg := cfgI (cF5 tab) (cF5 tab) fL6
noncomputable def cF (tab : List (Nat × Con)) : Cfg := cfgI (cF6 tab) (cF6 tab) fL7
theorem cF_ok {E : Env} (hE : QEnv E) {tab : List (Nat × Con)} (h : TabOK Try.prog E tab) : CfgOK Try.prog E (cF tab) := by
  have k0 : CfgOK Try.prog E (cF0 tab) := cfgT3_ok mixed (TabOK.app h (tabF_ok hE)) fL1_ok fL2_ok fL3_ok
  have k4 : CfgOK Try.prog E (cF4 tab) := cfgI_ok mixed k0 k0 (fun _ => trivial) fL4_ok
  have k5 : CfgOK Try.prog E (cF5 tab) := cfgI_ok mixed k4 k4 (fun _ => trivial) fL5_ok
  have k6 : CfgOK Try.prog E (cF6 tab) := cfgI_ok mixed k5 k5 (fun _ => trivial) fL6_ok
  exact cfgI_ok mixed k6 k6 (fun _ => trivial) fL7_ok
end Go.Proofs.Ytdblkeeicmncfab
end

/- ---- Rint64 ---- -/
section
/-
  Int64, of the reference.
-/
set_option maxRecDepth 100000
namespace Go.Proofs.Ytdblkeeicmncfab
open Go.RowKit

theorem cmpZ_nonneg {a b : Int} (h : b ≤ a) : 0 ≤ cmpZ a b := by
  rcases Int.lt_or_le b a with k | k
  · rw [cmpZ_gt k]; decide
  · rw [cmpZ_eq (by omega)]; decide
theorem cmpZ_nonpos {a b : Int} (h : a ≤ b) : cmpZ a b ≤ 0 := by
  rcases Int.lt_or_le a b with k | k
  · rw [cmpZ_lt k]; decide
  · rw [cmpZ_eq (by omega)]; decide
theorem rcmp_as {w : World} {v1 v2 : Value} {z1 z2 : Int} {k : Int} (h : Hid (cmpZ z1 z2 = k)) (h1 : IsInt w v1 z1) (h2 : IsInt w v2 z2) :
    Calls Try.prog 59 #[v1, v2] w fun e w' => e = .returned (.int .i64 k) ∧ Ext w w' := by
  rw [← h.out]
  exact rcmp_calls w v1 v2 z1 z2 h1 h2
theorem neg_conv2 {m : Int} (n : Nat) (h : (n : Int) = m) (h0 : 0 < n) (k : n ≤ 9223372036854775808) : wrap64 (-(wrap64 m)) = -(n : Int) := by
  simp only [wrap64]
  omega

set_option maxRecDepth 100000 in
set_option maxHeartbeats 1600000 in
theorem rint64_calls (w : World) (v : Value) (z : Int) (h : IsInt w v z) :
    Calls Try.prog 80 #[v] w fun e w' => e = .returned (.tuple #[.int .i64 (i64v z), .bool (i64ok z)]) ∧ Ext w w' := by
  have hI := h
  obtain ⟨ao, cap, s, n, rfl, h1, h2, h3, H4, H5, H6⟩ := h.open_
  obtain ⟨W, hW, eW, c0, c1⟩ := box1 w (.bool s) (.slice ao (limbs n).length cap) 24
  have HC := Lib.hid (And.intro h1 (And.intro h2 h3))
  clear h1 h2 h3
  go_enter Try.func80, Try.ntmps80
  go_wp2_with fail
  clear hW
  refine (rfromInt64_calls _ _ (by omega) (by omega)).mono ?_
  rintro e w1 ⟨x1, rfl, hx1, e1⟩
  replace c0 := e1.cell c0
  replace c1 := e1.cell c1
  replace eW := eW.trans e1
  clear e1
  go_wp2_with fail
  refine (rfromInt64_calls _ _ (by omega) (by omega)).mono ?_
  rintro e w2 ⟨x2, rfl, hx2, e2⟩
  replace c0 := e2.cell c0
  replace c1 := e2.cell c1
  replace eW := eW.trans e2
  replace hx1 := hx1.ext e2
  clear e2
  have i1 := hx1
  have i2 := hx2
  obtain ⟨a1, cp1, s1, n1, rfl, _, _, _, _, _, _⟩ := hx1.open_
  obtain ⟨a2, cp2, s2, n2, rfl, _, _, _, _, _, _⟩ := hx2.open_
  clear hx1 hx2
  obtain ⟨W3, hW3, e3, _, l0, l1, m0, m1⟩ := boxes2 w2 (.bool s1) (.slice a1 (limbs n1).length cp1) (.bool s2) (.slice a2 (limbs n2).length cp2) 24
  replace c0 := e3.cell c0
  replace c1 := e3.cell c1
  replace i1 := i1.ext e3
  replace i2 := i2.ext e3
  have i0 := hI.ext (eW.trans e3)
  replace eW := eW.trans e3
  have HI := Lib.hid (And.intro i0 (And.intro i1 i2))
  clear i0 i1 i2 e3
  rcases Int.lt_or_le z (-9223372036854775808) with hz | hz
  · have HK : Hid (cmpZ z (-9223372036854775808) = -1) := Lib.hid (cmpZ_lt hz)
    have HO := Lib.hid (i64_out (z := z) (.inl hz))
    clear hz
    go_wp2_with fail
    refine (rcmp_as HK HI.out.1 HI.out.2.1).mono ?_
    rintro e w4 ⟨rfl, e4⟩
    go_wp2
    go_ret2
    exact ⟨ret2 HO.out.1.symm HO.out.2.symm, eW.trans e4⟩
  have HK : Hid (∃ k, cmpZ z (-9223372036854775808) = k ∧ 0 ≤ k) := Lib.hid ⟨_, rfl, cmpZ_nonneg hz⟩
  obtain ⟨k, HK1, hk⟩ := HK.out
  replace HK1 := Lib.hid HK1
  clear HK
  rcases Int.lt_or_le 9223372036854775807 z with hy | hy
  · have HK2 : Hid (cmpZ z 9223372036854775807 = 1) := Lib.hid (cmpZ_gt hy)
    have HO := Lib.hid (i64_out (z := z) (.inr hy))
    clear hz hy
    go_wp2_with fail
    refine (rcmp_as HK1 HI.out.1 HI.out.2.1).mono ?_
    rintro e w4 ⟨rfl, e4⟩
    replace c0 := e4.cell c0
    replace c1 := e4.cell c1
    replace m0 := e4.cell m0
    replace m1 := e4.cell m1
    go_wp2_with fail
    refine (rcmp_as HK2 (HI.out.1.ext e4) (HI.out.2.2.ext e4)).mono ?_
    rintro e w5 ⟨rfl, e5⟩
    go_wp2
    go_ret2
    exact ⟨ret2 HO.out.1.symm HO.out.2.symm, (eW.trans e4).trans e5⟩
  have HK : Hid (∃ k, cmpZ z 9223372036854775807 = k ∧ k ≤ 0) := Lib.hid ⟨_, rfl, cmpZ_nonpos hy⟩
  obtain ⟨k', HK2, hk'⟩ := HK.out
  replace HK2 := Lib.hid HK2
  clear HK
  have HZ := Lib.hid (i64_in hz hy)
  have HN := Lib.hid (And.intro hz hy)
  clear hz hy
  go_wp2_with fail
  refine (rcmp_as HK1 HI.out.1 HI.out.2.1).mono ?_
  rintro e w4 ⟨rfl, e4⟩
  replace c0 := e4.cell c0
  replace c1 := e4.cell c1
  replace m0 := e4.cell m0
  replace m1 := e4.cell m1
  go_wp2_with fail
  refine (rcmp_as HK2 (HI.out.1.ext e4) (HI.out.2.2.ext e4)).mono ?_
  rintro e w5 ⟨rfl, e5⟩
  replace c0 := e5.cell c0
  replace c1 := e5.cell c1
  replace eW := (eW.trans e4).trans e5
  clear e4 e5 m0 m1 l0 l1
  have hsc := short_calls w5 ao (limbs n) cap HC.out.1 HC.out.2.1 (HC.out.2.2.ext eW) (by rw [val_limbs]; have := H4.out; have := HN.out; omega)
  rw [val_limbs] at hsc
  have HS := Lib.hid hsc
  clear hsc
  go_wp2_with fail
  refine HS.out.mono ?_
  rintro e w6 ⟨rfl, rfl⟩
  generalize hm : (n : Int) = m
  have HM := Lib.hid hm
  clear hm
  cases s
  · go_wp2
    go_ret2
    exact ⟨ret2 (by rw [HZ.out.1, H5.out]; have := HN.out; have := HM.out; have := H5.out; simp [sgn] at this ⊢; exact (wrap64_small n HM.out (by omega)).trans HM.out.symm) HZ.out.2.symm, eW⟩
  · have HP := Lib.hid (H6.out rfl)
    go_wp2
    go_ret2
    exact ⟨ret2 (by rw [HZ.out.1, H5.out]; have := HN.out; have := HP.out; have := H5.out; have := H4.out; simp [sgn]; exact neg_conv2 n HM.out (by omega) (by omega)) HZ.out.2.symm, eW⟩

end Go.Proofs.Ytdblkeeicmncfab
end

/- ---- Fld ---- -/
section
/-
  Package filter: awake, and the laws of signs and sums.
-/
set_option maxRecDepth 100000
namespace Go.Proofs.Ytdblkeeicmncfab
open Go.RowKit

noncomputable def tabS : List (Nat × Con) := [(62, kSqF)]
theorem tabS_ok {E : Env} : TabOK Try.prog E tabS := .cons kSqF_ok .nil
def lfF (t : BT) : Tree := .leaf [(false, [.b t])]
theorem lfF_out {E : Env} {β : Nat → Nat} {w : World} {v : Value} {t : BT} (h : (toAV ((lfF t).pick E)).holds E β w v) : v = .bool (t.den E) := one_bool.1 h
theorem awakeF_calls (w : World) : Calls Try.prog 11 #[] w fun e w' => e = .returned (.bool true) ∧ Ext w w' := by
  refine (fun_sound (C := cF tabS) (E := qE []) (args := []) (T := lfF (.lit true)) mixed (cF_ok (qE_ok _) tabS_ok) no_asm Try.func11 (by decide +kernel) (by kernel_rfl) (by decide +kernel) rfl w [] rfl (fun i x hx => by simp at hx)).mono ?_
  rintro e w' ⟨β, u, rfl, hh, ex⟩
  rw [lfF_out hh]
  exact ⟨rfl, ex⟩
def kTruF : Con
  | [], _ => some (.val false [.b (.lit true)])
  | _, _ => none
theorem kAwF_ok {E : Env} : ConOK Try.prog E 11 kTruF := by
  refine ⟨?_, ?_, ⟨_, Try.func11, by decide +kernel, by kernel_rfl⟩⟩
  · intro args G r h hG β w vs hv hlen
    unfold kTruF at h
    split at h
    · injection h with h
      subst h
      obtain rfl : vs = [] := by simpa using hlen
      refine (awakeF_calls w).mono ?_
      rintro e w' ⟨rfl, ex⟩
      exact ⟨_, rfl, one_bool.2 rfl, ex⟩
    · cases h
  · intro args G r h x off
    unfold kTruF at h
    split at h
    · injection h with h; subst h; intro e; cases e
    · cases h
noncomputable def gL1 : List (Nat × Func) := [(17, Try.f17), (19, Try.f19), (34, Try.f34), (36, Try.f36), (22, Try.f22), (21, Try.f21), (50, Try.f50), (15, Try.f15)]
noncomputable def gL2 : List (Nat × Func) := [(18, Try.f18), (53, Try.f53)]
noncomputable def gL3 : List (Nat × Func) := [(20, Try.f20)]
theorem gL1_ok : InlOK Try.prog gL1 :=
  .cons Try.func17 (by decide +kernel) (by kernel_rfl) <| .cons Try.func19 (by decide +kernel) (by kernel_rfl) <| .cons Try.func34 (by decide +kernel) (by kernel_rfl) <| .cons Try.func36 (by decide +kernel) (by kernel_rfl) <|
  .cons Try.func22 (by decide +kernel) (by kernel_rfl) <| .cons Try.func21 (by decide +kernel) (by kernel_rfl) <| .cons Try.func50 (by decide +kernel) (by kernel_rfl) <| .cons Try.func15 (by decide +kernel) (by kernel_rfl) .nil
theorem gL2_ok : InlOK Try.prog gL2 := .cons Try.func18 (by decide +kernel) (by kernel_rfl) <| .cons Try.func53 (by decide +kernel) (by kernel_rfl) .nil
theorem gL3_ok : InlOK Try.prog gL3 := .cons Try.func20 (by decide +kernel) (by kernel_rfl) .nil
noncomputable def tabG : List (Nat × Con) := (11, kTruF) :: (80, kI64) :: (tabR1 ++ tabT)
theorem tabG_ok {E : Env} (hE : QEnv E) : TabOK Try.prog E tabG := .cons kAwF_ok <| .cons (kI64_ok (fun w v z h => rint64_calls w v z h) ⟨_, Try.func80, by decide +kernel, by kernel_rfl⟩) <| TabOK.app tabR1_ok (tabT_ok hE)
noncomputable def cG : Cfg := cfgT3 tabG gL1 gL2 gL3
theorem cG_ok {E : Env} (hE : QEnv E) : CfgOK Try.prog E cG := cfgT3_ok mixed (tabG_ok hE) gL1_ok gL2_ok gL3_ok
end Go.Proofs.Ytdblkeeicmncfab
end

/- ---- Fle ---- -/
section
/-
  FilterSign.
-/
set_option maxRecDepth 100000
namespace Go.Proofs.Ytdblkeeicmncfab
open Go.RowKit

def allT : Tree → Bool
  | .leaf [(false, [.b (.lit true)])] => true
  | .leaf _ => false
  | .ite _ x y => allT x && allT y
theorem allT_out {E : Env} {β : Nat → Nat} {w : World} {v : Value} : ∀ {T : Tree}, allT T = true → (toAV (T.pick E)).holds E β w v → v = .bool true := by
  intro T
  induction T with
  | leaf l =>
    intro h hh
    unfold allT at h
    split at h
    · rename_i e
      injection e with e
      subst e
      exact one_bool.1 hh
    · cases h
    · rename_i e
      cases e
  | ite b x y ihx ihy =>
    intro h hh
    simp only [allT, Bool.and_eq_true] at h
    simp only [Tree.pick] at hh
    split at hh
    · exact ihx h.1 hh
    · exact ihy h.2 hh
def okT : Option Tree → Bool
  | some T => allT T
  | none => false
theorem okT_spec {o : Option Tree} (h : okT o = true) : ∃ T, o = some T ∧ allT T = true := by
  cases o with
  | none => cases h
  | some T => exact ⟨T, rfl, h⟩
def IsT (w : World) (e : Ending) (w' : World) : Prop := e = .returned (.bool true) ∧ Ext w w'
def aIv (i : Nat) : AV := .val true [.n .i64 (.var (2 * i)), .n .i64 (.var (2 * i + 2))]
theorem qE_int {l : List Rat} {i : Nat} {x : Int} (h : l.getD i 0 = (x : Rat)) : (qE l).i (2 * i) = x := by
  show (if 2 * i % 2 = 0 then (l.getD (2 * i / 2) 0).num else _) = x
  rw [if_pos (by omega), show 2 * i / 2 = i by omega, h, Rat.num_intCast]
theorem aIv_holds {l : List Rat} {β : Nat → Nat} {w : World} {i : Nat} {x y : Int} (hx : l.getD i 0 = (x : Rat)) (hy : l.getD (i + 1) 0 = (y : Rat)) : (aIv i).holds (qE l) β w (.agg #[.int .i64 x, .int .i64 y]) := by
  refine ⟨[_, _], rfl, [_], _, rfl, ?_, [_], [], rfl, ?_, rfl⟩
  · show [Value.int .i64 x] = [Value.int .i64 ((qE l).i (2 * i))]
    rw [qE_int hx]
  · show [Value.int .i64 y] = [Value.int .i64 ((qE l).i (2 * (i + 1)))]
    rw [qE_int hy]
theorem filterSign_calls (w : World) (v : Value) (x y : Int) (hv : v = .agg #[.int .i64 x, .int .i64 y]) : Calls Try.prog 8 #[v] w (IsT w) := by
  subst hv
  obtain ⟨T, hT, hall⟩ := okT_spec (o := funE cG Try.f8 [] [aIv 0]) (by kernel_rfl)
  refine (fun_sound (E := qE [(x : Rat), (y : Rat)]) (G := []) (T := T) mixed (cG_ok (qE_ok _)) no_asm Try.func8 (by decide +kernel) hT (by decide +kernel) rfl w [.agg #[.int .i64 x, .int .i64 y]] rfl ?_).mono ?_
  · intro i z hz
    match i, hz with
    | 0, hz => injection hz with hz; subst hz; exact ⟨fun _ => 0, _, rfl, aIv_holds rfl rfl⟩
  · rintro e w' ⟨β, u, rfl, hh, ex⟩
    rw [allT_out hall hh]
    exact ⟨rfl, ex⟩
end Go.Proofs.Ytdblkeeicmncfab
end

/- ---- Lift ---- -/
section
/-
  How an argument that is a struct of a bool and a slice of uint32 is read.
-/
set_option maxRecDepth 100000
namespace Go.Proofs.Ytdblkeeicmncfab
open Go.ChangeShapes Go.WideShapes Go.ChangeAt Go.RowKit Go.Joins

theorem own : ownKnob Try.prog.godebug = none := by kernel_rfl
theorem laidOut : laidOutB Try.prog = true := by kernel_rfl

theorem open_cells {H : Type} {enc : TypeId × Value → H} {W : World} {base : Nat} {spare : Nat → Bool} {held : Bool} {v0 v1 : Value} {y0 y1 : DataW H × List MemPlace} {n : Nat}
    (h0 : DataW.trod enc Try.prog W base spare held n 4 [v0] = some y0) (h1 : DataW.trod enc Try.prog W base spare held n 22 [v1] = some y1) : ∃ neg xs, Raw W (.agg #[v0, v1]) neg xs := by
  obtain ⟨b, hb0, _⟩ := DataW.trod_bool Try.underlying4 h0
  simp only [List.cons.injEq, and_true] at hb0
  subst hb0
  rcases open_ints Try.underlying22 Try.underlying71 (by kernel_rfl) h1 with ⟨hcs, _⟩ | ⟨x, l, c, zs, hcs, _, hl, hm, hz, _, hcell, hwz⟩
  · simp only [List.cons.injEq, and_true] at hcs
    subst hcs
    exact ⟨b, [], none, 0, rfl, by simp, by omega, Cells.nil _ _⟩
  · simp only [List.cons.injEq, and_true] at hcs
    subst hcs
    have hlz : l ≤ zs.length := by rw [hz]; split <;> omega
    have hlen : ((zs.take l).map Int.toNat).length = l := by simp [hlz]
    refine ⟨b, (zs.take l).map Int.toNat, some x, c, by rw [hlen], by rw [hlen]; exact hl, by unfold maxLen at hm; omega, ?_⟩
    rcases Nat.eq_zero_or_pos l with h0 | h0
    · exact .inl (List.eq_nil_of_length_eq_zero (by rw [hlen]; exact h0))
    · obtain ⟨bb, off, rfl, hc⟩ := ints_at hcell (by omega)
      refine .inr ⟨bb, off, rfl, fun i hi => ?_⟩
      rw [hlen] at hi
      rw [hc i (by omega)]
      have hmem : zs.getD i 0 ∈ zs := by
        rw [List.getD_eq_getElem?_getD, List.getElem?_eq_getElem (by omega)]
        exact List.getElem_mem _
      have hw := hwz _ hmem
      have hb2 : 0 ≤ zs.getD i 0 := by
        have : 0 ≤ zs.getD i 0 ∧ zs.getD i 0 ≤ 4294967295 := by simpa [Lit.wf, IntKind.min, IntKind.max, IntKind.signed, IntKind.bits] using hw
        exact this.1
      have he : ((zs.take l).map Int.toNat).getD i 0 = (zs.getD i 0).toNat := by
        simp only [List.getD_eq_getElem?_getD, List.getElem?_map, List.getElem?_take]
        rw [if_pos hi]
        rw [List.getElem?_eq_getElem (by omega)]
        rfl
      rw [he]
      congr 2
      omega

theorem open_arg {H : Type} {enc : TypeId × Value → H} {W : World} {b0 base : Nat} {spare : Nat → Bool} {held : Bool} {r : Reach} {v : Value} {d : DataW H} {p : List MemPlace}
    (hv : Value.okWide Try.prog W r b0 24 v) (h : DataW.Trod enc Try.prog W base spare held 24 v d p) : ∃ neg xs, Raw W v neg xs := by
  obtain ⟨v0, v1, y0, y1, n, rfl, rfl, rfl, h0, h1⟩ := open_agg2 Try.underlying24 (by kernel_rfl) (by kernel_rfl) hv h
  exact open_cells h0 h1

end Go.Proofs.Ytdblkeeicmncfab
end

/- ---- Liftf ---- -/
section
/-
  How arguments that are intervals of machine numbers are read.
-/
set_option maxRecDepth 100000
namespace Go.Proofs.Ytdblkeeicmncfab
open Go.ChangeShapes Go.WideShapes Go.ChangeAt Go.RowKit Go.Joins

theorem arr2 {cs : Array Value} (h : cs.size = 2) : ∃ c0 c1, cs = #[c0, c1] := by
  obtain ⟨l⟩ := cs
  have h' : l.length = 2 := h
  match l, h' with
  | [c0, c1], _ => exact ⟨c0, c1, rfl⟩
theorem i64_wf {n : Int} (h : (Lit.int .i64 n).wf = true) : -9223372036854775808 ≤ n ∧ n ≤ 9223372036854775807 := by
  simp only [Lit.wf, Bool.and_eq_true, decide_eq_true_iff] at h
  exact h
theorem open_iv {H : Type} {enc : TypeId × Value → H} {W : World} {b0 base : Nat} {spare : Nat → Bool} {held : Bool} {r : Reach} {v : Value} {d : DataW H} {p : List MemPlace}
    (hv : Value.okWide Try.prog W r b0 34 v) (h : DataW.Trod enc Try.prog W base spare held 34 v d p) : ∃ x y : Int, v = .agg #[.int .i64 x, .int .i64 y] ∧ (-9223372036854775808 ≤ x ∧ x ≤ 9223372036854775807) ∧ (-9223372036854775808 ≤ y ∧ y ≤ 9223372036854775807) := by
  obtain ⟨cs, rfl, hsz⟩ := okWide_struct Try.underlying34 hv
  have c2 : Try.prog.cellsOf 34 = 2 := by kernel_rfl
  have k1 : Try.prog.cellsOf 2 = 1 := by kernel_rfl
  obtain ⟨c0, c1, rfl⟩ := arr2 (hsz.trans c2)
  obtain ⟨fuel, hf⟩ := h
  obtain ⟨y0, y1, n, hx, _, h0, h1⟩ := trod_struct2 Try.underlying34 hf
  obtain ⟨x, e0, _, w0⟩ := DataW.trod_int (cs := [c0]) Try.underlying2 (by simpa [Value.cells, k1] using h0)
  obtain ⟨y, e1, _, w1⟩ := DataW.trod_int (cs := [c1]) Try.underlying2 (by simpa [Value.cells, k1] using h1)
  injection e0 with e0
  injection e1 with e1
  subst e0 e1
  exact ⟨x, y, rfl, i64_wf w0, i64_wf w1⟩
end Go.Proofs.Ytdblkeeicmncfab
end

/- ---- Flf ---- -/
section
/-
  FilterSums.
-/
set_option maxRecDepth 100000
namespace Go.Proofs.Ytdblkeeicmncfab
open Go.RowKit

def lM : IT := .lit (-2305843009213693952)
def lP : IT := .lit 2305843009213693952
def gR (t : IT) : Asm := [(.le (.lit (-9223372036854775808)) t, true), (.le t (.lit 9223372036854775807), true)]
def gP (i : Nat) (p q r : Bool) : Asm := [(.le (.var (2 * i)) (.var (2 * i + 2)), p), (.le lM (.var (2 * i)), q), (.le (.var (2 * i + 2)) lP, r)]
def sS0 : IT := .a2 0 (.var 0) (.var 4)
def sS1 : IT := .a2 0 (.var 2) (.var 6)
def gSum (b c : Bool) : Asm := gP 0 true true true ++ (gP 2 true true true ++ (gR (.var 0) ++ (gR (.var 2) ++ (gR (.var 4) ++ (gR (.var 6) ++ (gR sS0 ++ (gR sS1 ++
  [(.le sS0 sS1, true), (.le lM sS0, b), (.le sS1 lP, c), (.lt (.a1 20 sS1) (.a1 20 sS0), false), (.lt (.a1 20 sS0) lM, !b), (.lt lP (.a1 20 sS1), !c), (.eq (.a1 20 sS0) sS0, true), (.eq (.a1 20 sS1) sS1, true)])))))))
theorem sums_ok : ∀ b c : Bool, okT (funE cG Try.f4 (gSum b c) [aIv 0, aIv 2]) = true := by
  intro b c
  cases b <;> cases c <;> kernel_rfl
theorem sums_np : ∀ p1 p2 p3 q1 q2 q3 : Bool, (p1 && (p2 && (p3 && (q1 && (q2 && q3))))) = false → okT (funE cG Try.f4 (gP 0 p1 p2 p3 ++ gP 2 q1 q2 q3) [aIv 0, aIv 2]) = true := by
  intro p1 p2 p3 q1 q2 q3 h
  cases p1
  · cases p2 <;> cases p3 <;> cases q1 <;> cases q2 <;> cases q3 <;> kernel_rfl
  cases p2
  · cases p3 <;> cases q1 <;> cases q2 <;> cases q3 <;> kernel_rfl
  cases p3
  · cases q1 <;> cases q2 <;> cases q3 <;> kernel_rfl
  cases q1
  · cases q2 <;> cases q3 <;> kernel_rfl
  cases q2
  · cases q3 <;> kernel_rfl
  cases q3
  · kernel_rfl
  · cases h
theorem asm_app {E : Env} {G H : Asm} (h : G.holds E) (k : H.holds E) : Asm.holds E (G ++ H) := fun p hp => by
  rcases List.mem_append.1 hp with hp | hp
  · exact h p hp
  · exact k p hp
theorem asm_c {E : Env} {t : BT} {b : Bool} {G : Asm} (h : t.den E = b) (k : G.holds E) : Asm.holds E ((t, b) :: G) := fun p hp => by
  rcases List.mem_cons.1 hp with rfl | hp
  · exact h
  · exact k p hp
theorem gR_ok {E : Env} {t : IT} (h : -9223372036854775808 ≤ t.den E ∧ t.den E ≤ 9223372036854775807) : Asm.holds E (gR t) := asm_c (decide_eq_true h.1) (asm_c (decide_eq_true h.2) no_asm)
def Prp (x y : Int) : Prop := x ≤ y ∧ -2305843009213693952 ≤ x ∧ y ≤ 2305843009213693952
theorem gP_ok {E : Env} {i : Nat} {x y : Int} {p q r : Bool} (hx : E.i (2 * i) = x) (hy : E.i (2 * i + 2) = y) (h1 : decide (x ≤ y) = p) (h2 : decide (-2305843009213693952 ≤ x) = q) (h3 : decide (y ≤ 2305843009213693952) = r) : Asm.holds E (gP i p q r) := by
  subst hx hy
  exact asm_c h1 (asm_c h2 (asm_c h3 no_asm))
theorem filterSums_calls (w : World) (v v' : Value) (x y x' y' : Int) (hv : v = .agg #[.int .i64 x, .int .i64 y]) (hv' : v' = .agg #[.int .i64 x', .int .i64 y'])
    (rx : -9223372036854775808 ≤ x ∧ x ≤ 9223372036854775807) (ry : -9223372036854775808 ≤ y ∧ y ≤ 9223372036854775807) (rx' : -9223372036854775808 ≤ x' ∧ x' ≤ 9223372036854775807) (ry' : -9223372036854775808 ≤ y' ∧ y' ≤ 9223372036854775807) :
    Calls Try.prog 4 #[v, v'] w (IsT w) := by
  subst hv hv'
  obtain ⟨E, hE⟩ : ∃ E, E = qE [(x : Rat), (y : Rat), (x' : Rat), (y' : Rat)] := ⟨_, rfl⟩
  have e0 : E.i 0 = x := by rw [hE]; exact qE_int (i := 0) rfl
  have e2 : E.i 2 = y := by rw [hE]; exact qE_int (i := 1) rfl
  have e4 : E.i 4 = x' := by rw [hE]; exact qE_int (i := 2) rfl
  have e6 : E.i 6 = y' := by rw [hE]; exact qE_int (i := 3) rfl
  have fin : ∀ (G : Asm), G.holds E → okT (funE cG Try.f4 G [aIv 0, aIv 2]) = true → Calls Try.prog 4 #[.agg #[.int .i64 x, .int .i64 y], .agg #[.int .i64 x', .int .i64 y']] w (IsT w) := by
    intro G hG ho
    obtain ⟨T, hT, hall⟩ := okT_spec ho
    subst hE
    refine (fun_sound mixed (cG_ok (qE_ok _)) hG Try.func4 (by decide +kernel) hT (show 2 ≤ Try.f4.ntmps by decide +kernel) rfl w [.agg #[.int .i64 x, .int .i64 y], .agg #[.int .i64 x', .int .i64 y']] rfl ?_).mono ?_
    · intro i z hz
      match i, hz with
      | 0, hz => injection hz with hz; subst hz; exact ⟨fun _ => 0, _, rfl, aIv_holds (i := 0) rfl rfl⟩
      | 1, hz => injection hz with hz; subst hz; exact ⟨fun _ => 0, _, rfl, aIv_holds (i := 2) rfl rfl⟩
    · rintro e w' ⟨β, u, rfl, hh, ex⟩
      rw [allT_out hall hh]
      exact ⟨rfl, ex⟩
  by_cases hp : Prp x y ∧ Prp x' y'
  · obtain ⟨⟨p1, p2, p3⟩, q1, q2, q3⟩ := hp
    have d0 : sS0.den E = x + x' := by show E.i 0 + E.i 4 = _; rw [e0, e4]
    have d1 : sS1.den E = y + y' := by show E.i 2 + E.i 6 = _; rw [e2, e6]
    have w0 : (IT.a1 20 sS0).den E = x + x' := by show IntKind.i64.wrap (sS0.den E) = _; rw [d0, IntWalk.i64_in _ (by omega)]
    have w1 : (IT.a1 20 sS1).den E = y + y' := by show IntKind.i64.wrap (sS1.den E) = _; rw [d1, IntWalk.i64_in _ (by omega)]
    refine fin (gSum (decide (-2305843009213693952 ≤ x + x')) (decide (y + y' ≤ 2305843009213693952))) ?_ (sums_ok _ _)
    refine asm_app (gP_ok (i := 0) e0 e2 (decide_eq_true p1) (decide_eq_true p2) (decide_eq_true p3)) <| asm_app (gP_ok (i := 2) e4 e6 (decide_eq_true q1) (decide_eq_true q2) (decide_eq_true q3)) <|
      asm_app (gR_ok (t := .var 0) (by show _ ≤ E.i 0 ∧ E.i 0 ≤ _; rw [e0]; exact rx)) <| asm_app (gR_ok (t := .var 2) (by show _ ≤ E.i 2 ∧ E.i 2 ≤ _; rw [e2]; exact ry)) <|
      asm_app (gR_ok (t := .var 4) (by show _ ≤ E.i 4 ∧ E.i 4 ≤ _; rw [e4]; exact rx')) <| asm_app (gR_ok (t := .var 6) (by show _ ≤ E.i 6 ∧ E.i 6 ≤ _; rw [e6]; exact ry')) <|
      asm_app (gR_ok (by rw [d0]; omega)) <| asm_app (gR_ok (by rw [d1]; omega)) ?_
    refine asm_c ?_ <| asm_c ?_ <| asm_c ?_ <| asm_c ?_ <| asm_c ?_ <| asm_c ?_ <| asm_c ?_ <| asm_c ?_ no_asm
    · show decide (sS0.den E ≤ sS1.den E) = true
      rw [d0, d1, decide_eq_true_iff]; omega
    · show decide (-2305843009213693952 ≤ sS0.den E) = _
      rw [d0]
    · show decide (sS1.den E ≤ 2305843009213693952) = _
      rw [d1]
    · show decide ((IT.a1 20 sS1).den E < (IT.a1 20 sS0).den E) = false
      rw [w0, w1, decide_eq_false_iff_not]; omega
    · show decide ((IT.a1 20 sS0).den E < -2305843009213693952) = _
      rw [w0, ← decide_not, decide_eq_decide]; omega
    · show decide (2305843009213693952 < (IT.a1 20 sS1).den E) = _
      rw [w1, ← decide_not, decide_eq_decide]; omega
    · show ((IT.a1 20 sS0).den E == sS0.den E) = true
      rw [w0, d0, beq_self_eq_true]
    · show ((IT.a1 20 sS1).den E == sS1.den E) = true
      rw [w1, d1, beq_self_eq_true]
  · refine fin (gP 0 (decide (x ≤ y)) (decide (-2305843009213693952 ≤ x)) (decide (y ≤ 2305843009213693952)) ++ gP 2 (decide (x' ≤ y')) (decide (-2305843009213693952 ≤ x')) (decide (y' ≤ 2305843009213693952)))
      (asm_app (gP_ok (i := 0) e0 e2 rfl rfl rfl) (gP_ok (i := 2) e4 e6 rfl rfl rfl)) (sums_np _ _ _ _ _ _ ?_)
    rw [Bool.eq_false_iff]
    intro h
    simp only [Bool.and_eq_true, decide_eq_true_iff] at h
    exact hp ⟨⟨h.1, h.2.1, h.2.2.1⟩, h.2.2.2.1, h.2.2.2.2.1, h.2.2.2.2.2⟩
end Go.Proofs.Ytdblkeeicmncfab
end
