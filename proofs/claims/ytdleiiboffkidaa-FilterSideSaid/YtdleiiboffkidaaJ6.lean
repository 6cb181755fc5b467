/-
  Texts of this seat, joined.
-/
import Derived.Test.YtdleiiboffkidaaJ5
import Derived.Laws.FloatArith
import Derived.Laws.Externs
import Ieee.Arith
/- ---- Int64 ---- -/
section
/-
  Int64, of the program and of the reference.
-/
set_option maxRecDepth 100000
namespace Go.Proofs.Ytdleiiboffkidaa
open Go.RowKit

theorem limbs_top9 {n : Nat} (h : (limbs n).length = 3) : n = val ((limbs n).take 2) + 1000000000000000000 * (limbs n).getD 2 0 ∧ val ((limbs n).take 2) < 1000000000000000000 := by
  have h1 := val_split (limbs n) 2 (by omega)
  rw [val_limbs, val_drop _ 2 (by omega)] at h1
  have h2 : (limbs n).drop (2 + 1) = [] := List.drop_of_length_le (by omega)
  rw [h2] at h1
  have h3 := val_lt ((dig_limbs n).take 2)
  rw [List.length_take, h] at h3
  simp only [val] at h1
  have e : 1000000000 ^ min 2 3 = 1000000000000000000 := rfl
  rw [e] at h3
  omega
/-- Which integers Int64 looks into: those below 10^19. -/
theorem big_len {n : Nat} (h : 10000000000000000000 ≤ n) : 3 < (limbs n).length ∨ ((limbs n).length = 3 ∧ 9 < (limbs n).getD 2 0) := by
  rcases Nat.lt_or_ge 3 (limbs n).length with h1 | h1
  · exact .inl h1
  · right
    have h3 : (limbs n).length = 3 := by
      rcases Nat.lt_or_ge (limbs n).length 3 with h2 | h2
      · have := lt_of_limbs_len (n := n) (k := 2) (by omega); omega
      · omega
    obtain ⟨h4, h5⟩ := limbs_top9 h3
    exact ⟨h3, by omega⟩
theorem small_len {n : Nat} (h : n < 10000000000000000000) : (limbs n).length ≤ 3 ∧ ((limbs n).length = 3 → (limbs n).getD 2 0 ≤ 9) := by
  refine ⟨limbs_len_le (by omega), fun h3 => ?_⟩
  obtain ⟨h4, h5⟩ := limbs_top9 h3
  omega
theorem neg_conv (n : Nat) (h0 : 0 < n) (h : n ≤ 9223372036854775808) : wrap64 (IntKind.u64.wrap (-(n : Int))) = -(n : Int) := by
  simp only [wrap64, IntKind.wrap_u64]
  omega
theorem wrap64_small {m : Int} (n : Nat) (h : (n : Int) = m) (k : m ≤ 9223372036854775807) : wrap64 m = m := by
  simp only [wrap64]
  omega
theorem ret2 {a b : Int} {c d : Bool} (h : a = b) (k : c = d) : Ending.returned (.tuple #[.int .i64 a, .bool c]) = .returned (.tuple #[.int .i64 b, .bool d]) := by rw [h, k]

set_option maxRecDepth 100000 in
set_option maxHeartbeats 1600000 in
theorem int64_calls (w : World) (v : Value) (z : Int) (h : IsInt w v z) :
    Calls Try.prog 39 #[v] w fun e w' => e = .returned (.tuple #[.int .i64 (i64v z), .bool (i64ok z)]) ∧ Ext w w' := by
  obtain ⟨ao, cap, s, n, rfl, h1, h2, h3, H4, H5, H6⟩ := h.open_
  obtain ⟨W, hW, eW, c0, c1⟩ := box1 w (.bool s) (.slice ao (limbs n).length cap) 24
  by_cases hb : 10000000000000000000 ≤ n
  · have HO := Lib.hid (i64_out (z := z) (by have := H4.out; omega))
    rcases big_len hb with hl | ⟨hl, ht⟩
    · have hlI : decide ((3 : Int) < ((limbs n).length : Int)) = true := decide_eq_true (by omega)
      clear hb hl
      go_enter Try.func39, Try.ntmps39
      go_wp2
      go_ret2
      exact ⟨ret2 HO.out.1.symm HO.out.2.symm, eW⟩
    · obtain ⟨b1, o1, rfl, hx⟩ := (h3.ext eW).at_ (by omega)
      have hc := hx 2 (by omega)
      clear hx
      generalize (limbs n).getD 2 0 = t at *
      have htI : (9 : Int) < (t : Int) := by omega
      generalize (limbs n).length = L at *
      subst hl
      clear hb ht
      go_enter Try.func39, Try.ntmps39
      go_wp2
      go_ret2
      exact ⟨ret2 HO.out.1.symm HO.out.2.symm, eW⟩
  · obtain ⟨hl, ht⟩ := small_len (n := n) (by omega)
    have hv := valueOf_calls W ao (limbs n) cap h1 h2 (h3.ext eW) (by rw [val_limbs]; omega)
    rw [val_limbs] at hv
    have HV := Lib.hid hv
    have hfin : Hid ((∃ L : Nat, L = (limbs n).length ∧ L ≤ 3 ∧ (L = 3 → ∃ b1 o1 t, ao = some ⟨b1, o1, none⟩ ∧ W.cell? ⟨b1, o1 + 2, none⟩ = some (.int .u32 ((t : Nat) : Int)) ∧ t ≤ 9))) := by
      refine ⟨_, rfl, hl, fun h' => ?_⟩
      obtain ⟨b1, o1, rfl, hx⟩ := (h3.ext eW).at_ (by omega)
      exact ⟨b1, o1, _, rfl, hx 2 (by omega), ht h'⟩
    obtain ⟨L, hL, hL3, hLt⟩ := hfin.out
    rw [← hL] at HV
    rw [← hL] at hW c1
    have HLE := Lib.hid (show (Value.slice ao (limbs n).length cap) = .slice ao L cap by rw [hL])
    have HN := Lib.hid (show n < 10000000000000000000 by omega)
    have hz : z = sgn s n := H5.out
    clear hv hl ht h1 h2 h3 hb hfin h
    rw [HLE.out]
    clear hL HLE
    have hgo : ∀ (P : Prop), True := fun _ => trivial
    have HZ := Lib.hid hz
    clear hz hgo
    rcases Nat.lt_or_ge L 3 with hl | hl
    · have hlI : (L : Int) < 3 := by omega
      clear hLt hl hL3
      cases s
      by_cases hn : n ≤ 9223372036854775807
      · have HI := Lib.hid (i64_in (z := z) (by rw [HZ.out]; simp only [sgn]; simp; try omega) (by rw [HZ.out]; simp only [sgn]; simp; try omega))
        have hnI : (n : Int) ≤ 9223372036854775807 := by omega
        have HE : Hid (z = n) := HZ.out
        clear hn
        go_enter Try.func39, Try.ntmps39
        go_wp2_with fail
        refine HV.out.mono ?_
        rintro e w' ⟨rfl, rfl⟩
        generalize hm : (n : Int) = m at hnI ⊢
        have HM := Lib.hid hm
        clear hm
        go_wp2
        go_ret2
        exact ⟨ret2 (by rw [HI.out.1, HE.out, HM.out]; exact wrap64_small n HM.out hnI) HI.out.2.symm, eW⟩
      · have HI := Lib.hid (i64_out (z := z) (.inr (by rw [HZ.out]; simp only [sgn]; simp; try omega)))
        have hnI : (9223372036854775807 : Int) < n := by omega
        clear hn
        go_enter Try.func39, Try.ntmps39
        go_wp2_with fail
        refine HV.out.mono ?_
        rintro e w' ⟨rfl, rfl⟩
        generalize hm : (n : Int) = m at hnI ⊢
        have HM := Lib.hid hm
        clear hm
        go_wp2
        go_ret2
        exact ⟨ret2 HI.out.1.symm HI.out.2.symm, eW⟩
      by_cases hn : n ≤ 9223372036854775808
      · have HI := Lib.hid (i64_in (z := z) (by rw [HZ.out]; simp only [sgn]; simp; try omega) (by rw [HZ.out]; simp only [sgn]; simp; try omega))
        have hnI : decide ((n : Int) ≤ 9223372036854775808) = true := decide_eq_true (by omega)
        have HE : Hid (z = -n) := HZ.out
        have HP := Lib.hid (H6.out rfl)
        have HB := Lib.hid hn
        clear hn
        go_enter Try.func39, Try.ntmps39
        go_wp2_with fail
        refine HV.out.mono ?_
        rintro e w' ⟨rfl, rfl⟩
        go_wp2
        go_ret2
        exact ⟨ret2 (by rw [HI.out.1, HE.out]; exact neg_conv n HP.out HB.out) HI.out.2.symm, eW⟩
      · have HI := Lib.hid (i64_out (z := z) (.inl (by rw [HZ.out]; simp only [sgn]; simp; try omega)))
        have hnI : decide ((n : Int) ≤ 9223372036854775808) = false := decide_eq_false (by omega)
        clear hn
        go_enter Try.func39, Try.ntmps39
        go_wp2_with fail
        refine HV.out.mono ?_
        rintro e w' ⟨rfl, rfl⟩
        go_wp2
        go_ret2
        exact ⟨ret2 HI.out.1.symm HI.out.2.symm, eW⟩
    · obtain ⟨b1, o1, t, rfl, hc, htt⟩ := hLt (by omega)
      obtain rfl : L = 3 := by omega
      have htI : (t : Int) ≤ 9 := by omega
      clear hLt hl hL3 htt
      cases s
      by_cases hn : n ≤ 9223372036854775807
      · have HI := Lib.hid (i64_in (z := z) (by rw [HZ.out]; simp only [sgn]; simp; try omega) (by rw [HZ.out]; simp only [sgn]; simp; try omega))
        have hnI : (n : Int) ≤ 9223372036854775807 := by omega
        have HE : Hid (z = n) := HZ.out
        clear hn
        go_enter Try.func39, Try.ntmps39
        go_wp2_with fail
        refine HV.out.mono ?_
        rintro e w' ⟨rfl, rfl⟩
        generalize hm : (n : Int) = m at hnI ⊢
        have HM := Lib.hid hm
        clear hm
        go_wp2
        go_ret2
        exact ⟨ret2 (by rw [HI.out.1, HE.out, HM.out]; exact wrap64_small n HM.out hnI) HI.out.2.symm, eW⟩
      · have HI := Lib.hid (i64_out (z := z) (.inr (by rw [HZ.out]; simp only [sgn]; simp; try omega)))
        have hnI : (9223372036854775807 : Int) < n := by omega
        clear hn
        go_enter Try.func39, Try.ntmps39
        go_wp2_with fail
        refine HV.out.mono ?_
        rintro e w' ⟨rfl, rfl⟩
        generalize hm : (n : Int) = m at hnI ⊢
        have HM := Lib.hid hm
        clear hm
        go_wp2
        go_ret2
        exact ⟨ret2 HI.out.1.symm HI.out.2.symm, eW⟩
      by_cases hn : n ≤ 9223372036854775808
      · have HI := Lib.hid (i64_in (z := z) (by rw [HZ.out]; simp only [sgn]; simp; try omega) (by rw [HZ.out]; simp only [sgn]; simp; try omega))
        have hnI : decide ((n : Int) ≤ 9223372036854775808) = true := decide_eq_true (by omega)
        have HE : Hid (z = -n) := HZ.out
        have HP := Lib.hid (H6.out rfl)
        have HB := Lib.hid hn
        clear hn
        go_enter Try.func39, Try.ntmps39
        go_wp2_with fail
        refine HV.out.mono ?_
        rintro e w' ⟨rfl, rfl⟩
        go_wp2
        go_ret2
        exact ⟨ret2 (by rw [HI.out.1, HE.out]; exact neg_conv n HP.out HB.out) HI.out.2.symm, eW⟩
      · have HI := Lib.hid (i64_out (z := z) (.inl (by rw [HZ.out]; simp only [sgn]; simp; try omega)))
        have hnI : decide ((n : Int) ≤ 9223372036854775808) = false := decide_eq_false (by omega)
        clear hn
        go_enter Try.func39, Try.ntmps39
        go_wp2_with fail
        refine HV.out.mono ?_
        rintro e w' ⟨rfl, rfl⟩
        go_wp2
        go_ret2
        exact ⟨ret2 HI.out.1.symm HI.out.2.symm, eW⟩

end Go.Proofs.Ytdleiiboffkidaa
end

/- ---- Inl ---- -/
section
/-
  Functions taken at their text: a call is what the walk through its body comes to.
-/
set_option maxRecDepth 100000
namespace Go.Proofs.Ytdleiiboffkidaa
open Go.RowKit

def kInl (C : Cfg) (fn : Func) : Con := fun args G =>
  if args.all noPtr && (decide (args.length ≤ fn.ntmps) && decide (fn.results.toList.length ≤ 4)) then
    match funE C fn G args with
    | some (.leaf l) => some (toAV l)
    | _ => none
  else none
def kInlN (C : Cfg) (fn : Func) (args : List AV) (G : Asm) : Option BT :=
  match funE C fn G args with
  | some (.ite b _ _) => some b
  | _ => none
theorem toAV_nptr {l : List (Bool × List Chunk)} {x off : Nat} : toAV l ≠ .ptr x off := by
  unfold toAV
  split <;> (intro h; cases h)
theorem toAV_beta {E : Env} {β β' : Nat → Nat} {w : World} {l : List (Bool × List Chunk)} {v : Value} (h : (toAV l).holds E β w v) : (toAV l).holds E β' w v := by
  unfold toAV at *
  split at h <;> exact h
structure InlOK (P : Program) (l : List (Nat × Func)) : Prop where
  all : ∀ p ∈ l, P.funcs[p.1]? = some p.2 ∧ p.2.name ≠ "runtime.NumGoroutine" ∧ p.2.body.isNone = false
theorem InlOK.nil {P : Program} : InlOK P [] := ⟨fun _ h => by cases h⟩
theorem InlOK.cons {P : Program} {f : Nat} {fn : Func} {l : List (Nat × Func)} (h : P.funcs[f]? = some fn) (h1 : fn.name ≠ "runtime.NumGoroutine") (h2 : fn.body.isNone = false) (k : InlOK P l) : InlOK P ((f, fn) :: l) := ⟨fun d hd => by
  rcases List.mem_cons.1 hd with rfl | hd
  · exact ⟨h, h1, h2⟩
  · exact k.all d hd⟩
theorem kInl_ok {P : Program} (hm : P.follows .mixedOrders = true) {E : Env} {C : Cfg} (hC : CfgOK P E C) (hw : ∀ w, C.wok w) {f : Nat} {fn : Func} (hf : P.funcs[f]? = some fn) (h1 : fn.name ≠ "runtime.NumGoroutine") (h2 : fn.body.isNone = false) : ConOK P E f (kInl C fn) := by
  refine ⟨?_, ?_, fn, hf, h1, h2⟩
  · intro args G r h hG β w vs hv hlen
    unfold kInl at h
    split at h
    · rename_i hc
      simp only [Bool.and_eq_true, decide_eq_true_iff] at hc
      split at h
      · rename_i l hl
        injection h with h
        subst h
        refine (fun_sound hm hC hG hf hc.2.2 hl hc.2.1 hc.1 w vs hlen (fun i x hx => ⟨β, hv i x hx⟩) (fun w' _ => hw w')).mono ?_
        rintro e w' ⟨β', v, rfl, hh, ex⟩
        exact ⟨v, rfl, toAV_beta hh, ex⟩
      · cases h
    · cases h
  · intro args G r h x off
    unfold kInl at h
    split at h
    · split at h
      · injection h with h; subst h; exact toAV_nptr
      · cases h
    · cases h
/-- Calls of C, and where it knows none, functions taken at their text in C0. -/
def cfgI (C C0 : Cfg) (l : List (Nat × Func)) : Cfg :=
  { C with
    calls := fun f args M G => match findR l f with
      | some fn => kInl C0 fn args G
      | none => C.calls f args M G
    need := fun f args M G => match findR l f with
      | some fn => kInlN C0 fn args G
      | none => C.need f args M G }
theorem cfgI_ok {P : Program} (hm : P.follows .mixedOrders = true) {E : Env} {C C0 : Cfg} {l : List (Nat × Func)} (h : CfgOK P E C) (h0 : CfgOK P E C0) (hw : ∀ w, C0.wok w) (hl : InlOK P l) : CfgOK P E (cfgI C C0 l) := by
  refine ⟨h.zero, h.ag, h.fld, h.flds, h.bool, h.row, h.arr, ?_, ?_, ?_, h.slc, h.strT, h.cnv, h.apd, h.eq2⟩
  · intro f args M G r hr hG β w vs hwk hv hlen hmem
    simp only [cfgI] at hr
    split at hr
    · rename_i fn hfn
      obtain ⟨k1, k2, k3⟩ := hl.all _ (findR_spec hfn)
      exact (kInl_ok hm h0 hw k1 k2 k3).calls args G r hr hG β w vs hv hlen
    · exact h.calls f args M G r hr hG β w vs hwk hv hlen hmem
  · intro f args M G r hr x off
    simp only [cfgI] at hr
    split at hr
    · rename_i fn hfn
      obtain ⟨k1, k2, k3⟩ := hl.all _ (findR_spec hfn)
      exact (kInl_ok hm h0 hw k1 k2 k3).nptr args G r hr x off
    · exact h.nptr f args M G r hr x off
  · intro f args M G r hr
    simp only [cfgI] at hr
    split at hr
    · rename_i fn hfn
      obtain ⟨k1, k2, k3⟩ := hl.all _ (findR_spec hfn)
      exact ⟨fn, k1, k2, k3⟩
    · exact h.body f args M G r hr
theorem TabOK.app {P : Program} {E : Env} {l m : List (Nat × Con)} (h : TabOK P E l) (k : TabOK P E m) : TabOK P E (l ++ m) := ⟨fun p hp => by
  rcases List.mem_append.1 hp with hp | hp
  · exact h.all p hp
  · exact k.all p hp⟩
/-- A table, and functions taken at their text. -/
def cfgT (tab : List (Nat × Con)) (l : List (Nat × Func)) : Cfg := cfgI (cfgOf tab) (cfgOf tab) l
def cfgT2 (tab : List (Nat × Con)) (l l2 : List (Nat × Func)) : Cfg := cfgI (cfgT tab l) (cfgT tab l) l2
def cfgT3 (tab : List (Nat × Con)) (l l2 l3 : List (Nat × Func)) : Cfg := cfgI (cfgT2 tab l l2) (cfgT2 tab l l2) l3
theorem cfgT_ok {E : Env} {tab : List (Nat × Con)} {l : List (Nat × Func)} (hm : Try.prog.follows .mixedOrders = true) (h : TabOK Try.prog E tab) (hl : InlOK Try.prog l) : CfgOK Try.prog E (cfgT tab l) := cfgI_ok hm (cfg_ok h) (cfg_ok h) (fun _ => trivial) hl
theorem cfgT2_ok {E : Env} {tab : List (Nat × Con)} {l l2 : List (Nat × Func)} (hm : Try.prog.follows .mixedOrders = true) (h : TabOK Try.prog E tab) (hl : InlOK Try.prog l) (hl2 : InlOK Try.prog l2) : CfgOK Try.prog E (cfgT2 tab l l2) := cfgI_ok hm (cfgT_ok hm h hl) (cfgT_ok hm h hl) (fun _ => trivial) hl2
theorem cfgT3_ok {E : Env} {tab : List (Nat × Con)} {l l2 l3 : List (Nat × Func)} (hm : Try.prog.follows .mixedOrders = true) (h : TabOK Try.prog E tab) (hl : InlOK Try.prog l) (hl2 : InlOK Try.prog l2) (hl3 : InlOK Try.prog l3) : CfgOK Try.prog E (cfgT3 tab l l2 l3) := cfgI_ok hm (cfgT2_ok hm h hl hl2) (cfgT2_ok hm h hl hl2) (fun _ => trivial) hl3
end Go.Proofs.Ytdleiiboffkidaa
end

/- ---- Fla ---- -/
section
/-
  Package filter: machine numbers, and awake.
-/
set_option maxRecDepth 100000
namespace Go.Proofs.Ytdleiiboffkidaa
open Go.RowKit

/-- Numbers of 64 bits without a sign, by their form or by what is known. -/
def u64T (G : Asm) (t : IT) : Bool :=
  match t.cl with
  | some z => decide (0 ≤ z) && decide (z < 18446744073709551616)
  | none => match t with
    | .a1 21 _ => true
    | t => G.find (.le (.lit 0) t) == some true && G.find (.le t (.lit 18446744073709551615)) == some true
theorem u64T_spec {E : Env} {G : Asm} (hG : G.holds E) {t : IT} (h : u64T G t = true) : 0 ≤ t.den E ∧ t.den E < 18446744073709551616 := by
  unfold u64T at h
  split at h
  · rename_i z hz
    rw [Bool.and_eq_true, decide_eq_true_iff, decide_eq_true_iff] at h
    rw [IT.cl_spec hz]
    exact h
  · split at h
    · rename_i x _
      show 0 ≤ IntKind.u64.wrap (x.den E) ∧ IntKind.u64.wrap (x.den E) < 18446744073709551616
      rw [IntKind.wrap_u64]
      omega
    · rw [Bool.and_eq_true, beq_iff_eq, beq_iff_eq] at h
      have f1 := of_decide_eq_true (Asm.find_spec hG h.1)
      have f2 := of_decide_eq_true (Asm.find_spec hG h.2)
      simp only [IT.den] at f1 f2
      omega
def kMul64 : Con
  | [.val false [.n .u64 a], .val false [.n .u64 b]], G => if u64T G a && u64T G b then some (.tup [(false, [.n .u64 (IT.a2 19 a b).fold]), (false, [.n .u64 (IT.a1 21 (.a2 2 a b)).fold])]) else none
  | _, _ => none
theorem kMul64_ok {E : Env} : ConOK Try.prog E 41 kMul64 := by
  refine ⟨?_, ?_, ⟨_, Try.func41, by decide +kernel, by kernel_rfl⟩⟩
  · intro args G r h hG β w vs hv hlen
    unfold kMul64 at h
    split at h
    · rename_i a b
      split at h
      · rename_i hc
        rw [Bool.and_eq_true] at hc
        obtain ⟨a1, a2⟩ := u64T_spec hG hc.1
        obtain ⟨b1, b2⟩ := u64T_spec hG hc.2
        injection h with h
        subst h
        obtain ⟨v, u, rfl, h1, h2⟩ := args2 hv hlen
        have h1' := one_num.1 h1
        have h2' := one_num.1 h2
        obtain ⟨x, hx⟩ : ∃ x : Nat, a.den E = (x : Int) := ⟨(a.den E).toNat, by omega⟩
        obtain ⟨y, hy⟩ : ∃ y : Nat, b.den E = (y : Int) := ⟨(b.den E).toNat, by omega⟩
        rw [hx] at h1'
        rw [hy] at h2'
        subst h1' h2'
        refine (mul64_calls w x y (by omega) (by omega)).mono ?_
        rintro e w' ⟨rfl, rfl⟩
        refine ⟨_, rfl, ⟨[_, _], rfl, _, _, rfl, one_num.2 ?_, _, _, rfl, one_num.2 ?_, rfl⟩, Ext.refl _⟩
        · rw [IT.fold_den]
          show _ = Value.int .u64 (a.den E * b.den E / 18446744073709551616)
          rw [hx, hy, Int.natCast_ediv, Int.natCast_mul]; rfl
        · rw [IT.fold_den]
          show _ = Value.int .u64 (IntKind.u64.wrap (a.den E * b.den E))
          rw [hx, hy, IntKind.wrap_u64, Int.natCast_emod, Int.natCast_mul]; rfl
      · cases h
    · cases h
  · intro args G r h x off
    unfold kMul64 at h
    split at h
    · split at h
      · injection h with h; subst h; intro e; cases e
      · cases h
    · cases h
def i64R (x : IT) : BT := .and (.le (.lit (-9223372036854775808)) x) (.le x (.lit 9223372036854775807))
def kI64 : Con
  | [.val true [.int x _]], G => match (i64R x.fold).ev G with
    | some true => some (.tup [(false, [.n .i64 x.fold]), (false, [.b (.lit true)])])
    | some false => some (.tup [(false, [.n .i64 (.lit 0)]), (false, [.b (.lit false)])])
    | none => none
  | _, _ => none
theorem kI64_ok {E : Env} {f : Nat} (hc : ∀ (w : World) (v : Value) (z : Int), IsInt w v z → Calls Try.prog f #[v] w fun e w' => e = .returned (.tuple #[.int .i64 (i64v z), .bool (i64ok z)]) ∧ Ext w w')
    (hb : ∃ fn, Try.prog.funcs[f]? = some fn ∧ fn.name ≠ "runtime.NumGoroutine" ∧ fn.body.isNone = false) : ConOK Try.prog E f kI64 := by
  refine ⟨?_, ?_, hb⟩
  · intro args G r h hG β w vs hv hlen
    unfold kI64 at h
    split at h
    · rename_i x l
      have hev : ∀ b, (i64R x.fold).ev G = some b → i64ok (x.den E) = b := by
        intro b hb
        have := BT.ev_spec hG hb
        rw [← this]
        show _ = (decide (-9223372036854775808 ≤ x.fold.den E) && decide (x.fold.den E ≤ 9223372036854775807))
        rw [IT.fold_den]
        unfold i64ok
        rw [Bool.decide_and]
      obtain ⟨v, u, rfl⟩ : ∃ v, ∃ _u : Unit, vs = [v] := by
        match vs, hlen with
        | [v], _ => exact ⟨v, (), rfl⟩
      obtain ⟨v', hv', h1⟩ := hv 0 _ rfl
      injection hv' with hv'
      subst hv'
      obtain ⟨i1, _⟩ := one_int.1 h1
      split at h
      · rename_i ho
        injection h with h
        subst h
        have hk := hev _ ho
        refine (hc w v _ i1).mono ?_
        rintro e w' ⟨rfl, ex⟩
        refine ⟨_, rfl, ⟨[_, _], rfl, _, _, rfl, one_num.2 ?_, _, _, rfl, one_bool.2 (by rw [hk]; rfl), rfl⟩, ex⟩
        rw [IT.fold_den]
        unfold i64v
        rw [if_pos (of_decide_eq_true hk)]
      · rename_i ho
        injection h with h
        subst h
        have hk := hev _ ho
        refine (hc w v _ i1).mono ?_
        rintro e w' ⟨rfl, ex⟩
        refine ⟨_, rfl, ⟨[_, _], rfl, _, _, rfl, one_num.2 ?_, _, _, rfl, one_bool.2 (by rw [hk]; rfl), rfl⟩, ex⟩
        unfold i64v
        rw [if_neg (of_decide_eq_false hk)]; rfl
      · cases h
    · cases h
  · intro args G r h x off
    unfold kI64 at h
    split at h
    · split at h
      · injection h with h; subst h; intro e; cases e
      · injection h with h; subst h; intro e; cases e
      · cases h
    · cases h
end Go.Proofs.Ytdleiiboffkidaa
end

/- ---- Flb ---- -/
section
/-
  Package filter: the square root with floats, at one number.
-/
set_option maxRecDepth 100000
namespace Go.Proofs.Ytdleiiboffkidaa
open Go.RowKit

theorem mathSqrt_calls (w : World) (x r : Nat) (h : FloatKind.f64.format.sqrt x = some r) : Calls Try.prog 84 #[.float .f64 x] w fun e w' => e = .returned (.float .f64 r) ∧ Ext w w' := by
  go_enter Try.func84, Try.ntmps84
  go_wp2_with fail
  rw [run_callFunc_extern Try.func100 (by kernel_rfl) (by kernel_rfl) (by kernel_rfl) (show Extern.find Try.f100 = some Extern.MathSqrt.sqrt by kernel_rfl)]
  have hr : (Extern.MathSqrt.sqrt #[.float .f64 x]).run Try.prog w = .ok (.float .f64 r) w := by
    change Sem.run _ (match FloatKind.f64.format.sqrt x with | some r => (pure (.float .f64 r) : Sem Value) | none => do pure (.float .f64 (← choose (.nanBits .f64 x x)))) w = _
    rw [h]
    rfl
  rw [hr]
  simp only [Result.andThen, Oper.upon_value]
  go_wp2
  go_ret
  exact ⟨rfl, Ext.refl w⟩
theorem csq_2 (w : World) : Calls Try.prog 85 #[.int .u64 92681, .int .u64 0, .int .u64 8589934592] w fun e w' => e = .returned (.int .i64 (-1)) ∧ Ext w w' := by
  refine (fun_sound (C := cfgOf [(41, kMul64)]) (E := qE []) (G := []) (args := [.val false [.n .u64 (.lit 92681)], .val false [.n .u64 (.lit 0)], .val false [.n .u64 (.lit 8589934592)]]) (T := .leaf [(false, [.n .i64 (.lit (-1))])])
    mixed (cfg_ok (.cons kMul64_ok .nil)) no_asm Try.func85 (by decide +kernel) (by kernel_rfl) (by decide +kernel) rfl w [.int .u64 92681, .int .u64 0, .int .u64 8589934592] rfl ?_).mono ?_
  · intro i x hx
    match i, hx with
    | 0, hx => injection hx with hx; subst hx; exact ⟨fun _ => 0, _, rfl, one_num.2 rfl⟩
    | 1, hx => injection hx with hx; subst hx; exact ⟨fun _ => 0, _, rfl, one_num.2 rfl⟩
    | 2, hx => injection hx with hx; subst hx; exact ⟨fun _ => 0, _, rfl, one_num.2 rfl⟩
  · rintro e w' ⟨β, u, rfl, hh, ex⟩
    have h1 : u = .int .i64 (-1) := one_num.1 hh
    rw [h1]
    exact ⟨rfl, ex⟩
/-- The square root of 2, as the program finds it. -/
theorem fsqrt_2 (w : World) : Calls Try.prog 54 #[.int .i64 131072] w fun e w' => e = .returned (.tuple #[.int .u64 92681, .bool false]) ∧ Ext w w' := by
  go_enter Try.func54, Try.ntmps54
  go_wp2_with fail
  refine (mul64_calls w 131072 65536 (by omega) (by omega)).mono ?_
  rintro e w' ⟨rfl, rfl⟩
  go_wp2_with fail
  have hm := run_float_arith (P := Try.prog) w' .mul 117 .f64 4683743612465315840 4679240012837945344 4755801206503243776 (by decide +kernel)
  have he : floatOfInt .f64 131072 = 4683743612465315840 := by decide +kernel
  rw [he, hm]
  simp only [Result.andThen_ok, Oper.upon_value]
  clear hm he
  go_wp2_with fail
  refine (mathSqrt_calls w' 4755801206503243776 4681105464883100621 (by decide +kernel)).mono ?_
  rintro e w2 ⟨rfl, ex⟩
  go_wp2_with fail
  rw [run_convert_float_int (P := Try.prog) (w := w2) 117 75 .f64 .u64 4681105464883100621 92681 (by kernel_rfl) Try.underlying75 (by decide +kernel)]
  simp only [Result.andThen_ok, Oper.upon_value]
  go_wp2_with fail
  refine (csq_2 w2).mono ?_
  rintro e w3 ⟨rfl, ex3⟩
  go_wp2_with fail
  refine (csq_2 w3).mono ?_
  rintro e w4 ⟨rfl, ex4⟩
  go_wp2_with fail
  go_ret2
  exact ⟨rfl, ex.trans (ex3.trans ex4)⟩
end Go.Proofs.Ytdleiiboffkidaa
end

/- ---- Rdy ---- -/
section
/-
  Valid, of any struct.
-/
set_option maxRecDepth 100000
namespace Go.Proofs.Ytdleiiboffkidaa
open Go.RowKit

/-- Two structs in a rational number's place, whatever they hold. -/
def RawQ (w : World) (v : Value) (s1 : Bool) (xs1 : List Nat) (s2 : Bool) (xs2 : List Nat) : Prop :=
  ∃ a b c d, v = .agg #[a, b, c, d] ∧ Raw w (.agg #[a, b]) s1 xs1 ∧ Raw w (.agg #[c, d]) s2 xs2
def rE (l : List (Bool × List Nat)) : Env := ⟨fun _ => 0, fun _ => false, fun i => l.getD i (false, []), fun _ => []⟩
def argRaw (i j : Nat) : AV := .val true [.raw i, .raw j]
theorem argRaw_holds {E : Env} {β : Nat → Nat} {w : World} {v : Value} {s1 s2 : Bool} {xs1 xs2 : List Nat} {i j : Nat} (h : RawQ w v s1 xs1 s2 xs2) (e1 : E.r i = (s1, xs1)) (e2 : E.r j = (s2, xs2)) : (argRaw i j).holds E β w v := by
  obtain ⟨a, b, c, d, rfl, h1, h2⟩ := h
  refine ⟨[a, b, c, d], rfl, [a, b], [c, d], rfl, ⟨a, b, rfl, ?_⟩, [c, d], [], rfl, ⟨c, d, rfl, ?_⟩, rfl⟩
  · rw [e1]; exact h1
  · rw [e2]; exact h2
/-- Valid, of integers and of any structs. -/
def kRV : Con
  | [.val true [.raw i]], _ => some (.val false [.b (.ok i)])
  | [.val true [.int _ _]], _ => some (.val false [.b (.lit true)])
  | _, _ => none
theorem kRV_ok {E : Env} {f : Nat} (hc : ∀ (w : World) (v : Value) (s : Bool) (xs : List Nat), Raw w v s xs → Calls Try.prog f #[v] w fun e w' => e = .returned (.bool (okB s xs)) ∧ Ext w w')
    (hb : ∃ fn, Try.prog.funcs[f]? = some fn ∧ fn.name ≠ "runtime.NumGoroutine" ∧ fn.body.isNone = false) : ConOK Try.prog E f kRV := by
  refine ⟨?_, ?_, hb⟩
  · intro args As r h hG β w vs hv hlen
    unfold kRV at h
    split at h
    · rename_i i
      injection h with h
      subst h
      obtain ⟨v, rfl, us, rfl, l1, r1, rfl, ⟨x, y, rfl, hr⟩, hn⟩ := args1 hv hlen
      simp only [chunks] at hn
      subst hn
      refine (hc w _ _ _ hr).mono ?_
      rintro e w' ⟨rfl, ex⟩
      exact ⟨_, rfl, one_bool.2 rfl, ex⟩
    · injection h with h
      subst h
      obtain ⟨v, rfl, h1⟩ := args1 hv hlen
      obtain ⟨ao, cap, s, n, rfl, k1, k2, k3, H4, H5, H6⟩ := (one_int.1 h1).1.open_
      obtain ⟨j1, j2⟩ := isInt_raw k1 k2 k3 H6.out
      refine (hc w _ _ _ j1).mono ?_
      rintro e w' ⟨rfl, ex⟩
      exact ⟨_, rfl, one_bool.2 (by rw [j2]; rfl), ex⟩
    · cases h
  · intro args As r h x off
    unfold kRV at h
    split at h
    · injection h with h; subst h; intro e; cases e
    · injection h with h; subst h; intro e; cases e
    · cases h
def okQ (s1 : Bool) (xs1 : List Nat) (s2 : Bool) (xs2 : List Nat) : Bool :=
  okB s1 xs1 && okB s2 xs2 && decide (0 < sgn s2 (val xs2)) && decide (Nat.gcd (sgn s1 (val xs1)).natAbs (sgn s2 (val xs2)).natAbs = 1)
def tabRV : List (Nat × Con) := (69, kRV) :: (70, kIIb fun x y => .eq x y) :: (72, k0 (.lit 1) 3) :: tabR2
theorem tabRV_ok {E : Env} : TabOK Try.prog E tabRV :=
  .cons (kRV_ok (fun w v s xs h => rvalid_calls w v s xs h) ⟨_, Try.func69, by decide +kernel, by kernel_rfl⟩)
    (.cons (kIIb_ok (fun x y => x == y) (fun _ _ => rfl) (fun w v1 v2 z1 z2 h1 h2 => (rsame_calls w v1 v2 z1 z2 h1 h2).mono (fun e w' h => ⟨by rw [h.1]; by_cases hz : z1 = z2 <;> simp [hz], h.2⟩)) ⟨_, Try.func70, by decide +kernel, by kernel_rfl⟩)
      (.cons (k0_ok 1 rfl (fun w => unit_calls w) (lim3 (by decide) (by decide)) ⟨_, Try.func72, by decide +kernel, by kernel_rfl⟩) tabR2_ok))
/-- A walk with any structs, where one of them is not valid. -/
theorem walkRaw {tab : List (Nat × Con)} {f : Nat} {fn : Func} {G : Asm} {w : World} {v : Value} {s1 s2 : Bool} {xs1 xs2 : List Nat} (ht : TabOK Try.prog (rE [(s1, xs1), (s2, xs2)]) tab) (hG : G.holds (rE [(s1, xs1), (s2, xs2)])) (hf : Try.prog.funcs[f]? = some fn)
    (hT : funE (cfgOf tab) fn G [argRaw 0 1] = some (.leaf [(false, [.b (.lit false)])])) (h4 : fn.results.toList.length ≤ 4) (hn : 1 ≤ fn.ntmps) (h : RawQ w v s1 xs1 s2 xs2) :
    Calls Try.prog f #[v] w fun e w' => e = .returned (.bool false) ∧ Ext w w' := by
  refine (fun_sound mixed (cfg_ok ht) hG hf h4 hT hn rfl w [v] rfl ?_).mono ?_
  · intro i x hx
    match i, hx with
    | 0, hx => injection hx with hx; subst hx; exact ⟨fun _ => 0, v, rfl, argRaw_holds h rfl rfl⟩
  · rintro e w' ⟨β, u, rfl, hh, ex⟩
    have := one_bool.1 hh
    subst this
    exact ⟨rfl, ex⟩
theorem asm1 {E : Env} {t : BT} {b : Bool} (h : t.den E = b) : Asm.holds E [(t, b)] := by
  intro p hp
  simp only [List.mem_cons, List.not_mem_nil, or_false] at hp
  subst hp
  exact h
theorem asm2 {E : Env} {t u : BT} {b c : Bool} (h : t.den E = b) (k : u.den E = c) : Asm.holds E [(t, b), (u, c)] := by
  intro p hp
  simp only [List.mem_cons, List.not_mem_nil, or_false] at hp
  rcases hp with rfl | rfl
  · exact h
  · exact k
theorem okQ_pair {w : World} {v : Value} {s1 s2 : Bool} {xs1 xs2 : List Nat} (h : RawQ w v s1 xs1 s2 xs2) (b1 : okB s1 xs1 = true) (b2 : okB s2 xs2 = true) : IsPair w v (sgn s1 (val xs1)) (sgn s2 (val xs2)) := by
  obtain ⟨a, b, c, d, rfl, h1, h2⟩ := h
  exact ⟨a, b, c, d, rfl, (okB_int h1 b1).1, (okB_int h2 b2).1⟩
theorem ok_lim {w : World} {v : Value} {s : Bool} {xs : List Nat} {k : Nat} (h : Raw w v s xs) (b : okB s xs = true) (l : xs.length ≤ k) : Lim k (sgn s (val xs)) := by
  have := (okB_int h b).2
  unfold Lim
  rw [natAbs_sgn, this]
  exact l
theorem cmp_pos (d : Int) : (cmpZ d 0 = 1) ↔ 0 < d := by
  rcases cmpZ_cases d 0 with ⟨h, e⟩ | ⟨h, e⟩ | ⟨h, e⟩ <;> rw [e] <;> omega
theorem cmp_pos' (d : Int) : (0 < cmpZ d 0) ↔ 0 < d := by
  rcases cmpZ_cases d 0 with ⟨h, e⟩ | ⟨h, e⟩ | ⟨h, e⟩ <;> rw [e] <;> omega
theorem rvalid_rat_calls (w : World) (v : Value) (s1 s2 : Bool) (xs1 xs2 : List Nat) (h : RawQ w v s1 xs1 s2 xs2) (l1 : xs1.length ≤ 100000) (l2 : xs2.length ≤ 100000) :
    Calls Try.prog 38 #[v] w fun e w' => e = .returned (.bool (okQ s1 xs1 s2 xs2)) ∧ Ext w w' := by
  cases b1 : okB s1 xs1 with
  | false =>
    have e0 : okQ s1 xs1 s2 xs2 = false := by unfold okQ; rw [b1]; rfl
    rw [e0]
    exact walkRaw tabRV_ok (asm1 (t := .ok 0) b1) Try.func38 (by kernel_rfl) (by decide +kernel) (by decide +kernel) h
  | true =>
    cases b2 : okB s2 xs2 with
    | false =>
      have e0 : okQ s1 xs1 s2 xs2 = false := by unfold okQ; rw [b1, b2]; rfl
      rw [e0]
      exact walkRaw tabRV_ok (asm2 (t := .ok 0) (u := .ok 1) b1 b2) Try.func38 (by kernel_rfl) (by decide +kernel) (by decide +kernel) h
    | true =>
      have hp := okQ_pair h b1 b2
      have m1 : Lim 100000 (sgn s1 (val xs1)) := by obtain ⟨a, b, c, d, rfl, h1, h2⟩ := h; exact ok_lim h1 b1 l1
      have m2 : Lim 100000 (sgn s2 (val xs2)) := by obtain ⟨a, b, c, d, rfl, h1, h2⟩ := h; exact ok_lim h2 b2 l2
      have e0 : okQ s1 xs1 s2 xs2 = (decide (0 < sgn s2 (val xs2)) && decide (Nat.gcd (sgn s1 (val xs1)).natAbs (sgn s2 (val xs2)).natAbs = 1)) := by unfold okQ; rw [b1, b2]; rfl
      rw [e0]
      generalize sgn s1 (val xs1) = n at *
      generalize sgn s2 (val xs2) = d at *
      refine (fun_sound (C := cfgOf tabRV) (E := zE [n, d]) (args := [argQ 0]) (T := .ite (.eq (.a2 3 (.var 1) (.lit 0)) (.lit 1)) (.leaf [(false, [.b (.eq (.a2 6 (.var 0) (.var 1)) (.lit 1))])]) (.leaf [(false, [.b (.lit false)])]))
        mixed (cfg_ok tabRV_ok) no_asm Try.func38 (by decide +kernel) (by kernel_rfl) (by decide +kernel) rfl w [v] rfl ?_).mono ?_
      · intro i x hx
        match i, hx with
        | 0, hx => injection hx with hx; subst hx; exact ⟨fun _ => 0, v, rfl, argP_holds hp m1 m2 rfl rfl⟩
      · rintro e w' ⟨β, u, rfl, hh, ex⟩
        simp only [Tree.pick] at hh
        split at hh
        · rename_i hz
          have hd : 0 < d := (cmp_pos d).1 (eq_of_beq hz)
          have := one_bool.1 hh
          subst this
          rw [decide_eq_true hd, Bool.true_and]
          refine ⟨ret_bool ?_, ex⟩
          show (((Nat.gcd n.natAbs d.natAbs : Nat) : Int) == 1) = _
          by_cases hg : Nat.gcd n.natAbs d.natAbs = 1
          · rw [decide_eq_true hg, beq_iff_eq]; omega
          · rw [decide_eq_false hg, beq_eq_false_iff_ne]; omega
        · rename_i hz
          have hd : ¬ 0 < d := fun e => hz (beq_iff_eq.2 ((cmp_pos d).2 e))
          have := one_bool.1 hh
          subst this
          rw [decide_eq_false hd, Bool.false_and]
          exact ⟨rfl, ex⟩

end Go.Proofs.Ytdleiiboffkidaa
end

/- ---- Rdz ---- -/
section
/-
  Small, of any structs and of rows of them.
-/
set_option maxRecDepth 100000
namespace Go.Proofs.Ytdleiiboffkidaa
open Go.RowKit

/-- Where truth variables say that structs are valid. -/
def VEnv (E : Env) : Prop := ∀ i, i % 2 = 0 → E.b (i / 2) = okQ (E.r i).1 (E.r i).2 (E.r (i + 1)).1 (E.r (i + 1)).2
def kRVQ : Con
  | [.val true [.raw i, .raw j]], G => if i % 2 == 0 && (j == i + 1 && (G.find (.le (.rlen i) (.lit 6)) == some true && G.find (.le (.rlen j) (.lit 6)) == some true)) then some (.val false [.b (.var (i / 2))]) else none
  | _, _ => none
theorem one_raw2 {E : Env} {w : World} {i j : Nat} {v : Value} (h : one E w (true, [.raw i, .raw j]) v) : RawQ w v (E.r i).1 (E.r i).2 (E.r j).1 (E.r j).2 := by
  obtain ⟨us, rfl, l1, r1, rfl, ⟨x, y, rfl, h1⟩, l2, r2, rfl, ⟨z, t, rfl, h2⟩, hn⟩ := h
  simp only [chunks] at hn
  subst hn
  exact ⟨x, y, z, t, rfl, h1, h2⟩
theorem kRVQ_ok {E : Env} (hE : VEnv E) : ConOK Try.prog E 38 kRVQ := by
  refine ⟨?_, ?_, ⟨_, Try.func38, by decide +kernel, by kernel_rfl⟩⟩
  · intro args As r h hG β w vs hv hlen
    unfold kRVQ at h
    split at h
    · rename_i i j
      split at h
      · rename_i hlo
        injection h with h
        subst h
        simp only [Bool.and_eq_true, beq_iff_eq] at hlo
        obtain ⟨hi, rfl, b1, b2⟩ := hlo
        have c1 := of_decide_eq_true (Asm.find_spec hG b1)
        have c2 := of_decide_eq_true (Asm.find_spec hG b2)
        simp only [IT.den] at c1 c2
        obtain ⟨v, rfl, h1⟩ := args1 hv hlen
        refine (rvalid_rat_calls w v _ _ _ _ (one_raw2 h1) (by omega) (by omega)).mono ?_
        rintro e w' ⟨rfl, ex⟩
        exact ⟨_, rfl, one_bool.2 (by rw [← hE i hi]; rfl), ex⟩
      · cases h
    · cases h
  · intro args As r h x off
    unfold kRVQ at h
    split at h
    · split at h
      · injection h with h; subst h; intro e; cases e
      · cases h
    · cases h
/-- What Small says of a rational number's place. -/
def smQ (s1 : Bool) (xs1 : List Nat) (s2 : Bool) (xs2 : List Nat) : Bool := decide (xs1.length ≤ 6) && decide (xs2.length ≤ 6) && okQ s1 xs1 s2 xs2
/-- Structs, and what is said of them. -/
def bE (f : Bool → List Nat → Bool → List Nat → Bool) (l : List (Bool × List Nat)) : Env :=
  ⟨fun _ => 0, fun q => f (l.getD (2 * q) (false, [])).1 (l.getD (2 * q) (false, [])).2 (l.getD (2 * q + 1) (false, [])).1 (l.getD (2 * q + 1) (false, [])).2, fun i => l.getD i (false, []), fun _ => []⟩
theorem bE_ok (l : List (Bool × List Nat)) : VEnv (bE okQ l) := by
  intro i hi
  show okQ (l.getD (2 * (i / 2)) (false, [])).1 _ _ _ = _
  rw [show 2 * (i / 2) = i by omega]
  rfl
end Go.Proofs.Ytdleiiboffkidaa
end

/- ---- Rea ---- -/
section
/-
  The laws' helper that asks whether all of a row is small.
-/
set_option maxRecDepth 100000
namespace Go.Proofs.Ytdleiiboffkidaa
open Go.RowKit

def SEnv (E : Env) : Prop := ∀ i, i % 2 = 0 → E.b (i / 2) = smQ (E.r i).1 (E.r i).2 (E.r (i + 1)).1 (E.r (i + 1)).2
theorem bE_sm (l : List (Bool × List Nat)) : SEnv (bE smQ l) := by
  intro i hi
  show smQ (l.getD (2 * (i / 2)) (false, [])).1 _ _ _ = _
  rw [show 2 * (i / 2) = i by omega]
  rfl
def kSmQ : Con
  | [.val true [.raw i, .raw j], .val false [.n .i64 (.lit z)]], _ => if i % 2 == 0 && (j == i + 1 && z == 6) then some (.val false [.b (.var (i / 2))]) else none
  | _, _ => none
/-- The chunks of a row of n rational numbers' places. -/
def rowC : Nat → List Chunk
  | 0 => []
  | n + 1 => rowC n ++ [.raw (2 * n), .raw (2 * n + 1)]
/-- What small says of a row. -/
def smAll (f : Nat → Bool) : Nat → Bool
  | 0 => true
  | n + 1 => smAll f n && f n
def tSm : Nat → Nat → Tree
  | _, 0 => .leaf [(false, [.b (.lit true)])]
  | k, n + 1 => .ite (.var k) (tSm (k + 1) n) (.leaf [(false, [.b (.lit false)])])
theorem tSm_pick {E : Env} : ∀ (n k : Nat), ∃ b, (tSm k n).pick E = [(false, [.b (.lit b)])] ∧ (b = true ↔ ∀ i, i < n → E.b (k + i) = true)
  | 0, k => ⟨true, rfl, by simp⟩
  | n + 1, k => by
    obtain ⟨b, h1, h2⟩ := tSm_pick (E := E) n (k + 1)
    cases hk : E.b k with
    | true =>
      refine ⟨b, ?_, ?_⟩
      · show (if E.b k = true then _ else _) = _
        rw [if_pos hk]; exact h1
      · rw [h2]
        constructor
        · intro h i hi
          match i with
          | 0 => exact hk
          | i + 1 => have := h i (by omega); rwa [show k + 1 + i = k + (i + 1) by omega] at this
        · intro h i hi
          have := h (i + 1) (by omega)
          rwa [show k + (i + 1) = k + 1 + i by omega] at this
    | false =>
      refine ⟨false, ?_, ?_⟩
      · show (if E.b k = true then _ else _) = _
        rw [if_neg (by rw [hk]; simp)]; rfl
      · constructor
        · intro h; cases h
        · intro h; have := h 0 (by omega); rw [Nat.add_zero, hk] at this; cases this
end Go.Proofs.Ytdleiiboffkidaa
end

/- ---- Reb ---- -/
section
/-
  A configuration for the laws of rational numbers: awake, small, and the table.
-/
set_option maxRecDepth 100000
namespace Go.Proofs.Ytdleiiboffkidaa
open Go.RowKit

/-- Rows, told by their form. -/
def isRaw : Nat → List Chunk → Bool
  | _, [] => true
  | i, .raw j :: cs => j == i && isRaw (i + 1) cs
  | _, _ => false
theorem isRaw_spec : ∀ {cs : List Chunk} {i : Nat}, isRaw i cs = true → cs = (List.range cs.length).map fun k => .raw (i + k)
  | [], _, _ => rfl
  | .raw j :: cs, i, h => by
    simp only [isRaw, Bool.and_eq_true, beq_iff_eq] at h
    obtain ⟨rfl, h⟩ := h
    have := isRaw_spec h
    rw [List.length_cons, List.range_succ_eq_map, List.map_cons, List.map_map, Nat.add_zero]
    congr 1
    refine Eq.trans this (List.map_congr_left fun k _ => ?_)
    show Chunk.raw _ = Chunk.raw _
    rw [show j + 1 + k = j + (k + 1) by omega]
  | .b _ :: _, _, h | .n _ _ :: _, _, h | .int _ _ :: _, _, h | .mag _ _ :: _, _, h | .rmag _ :: _, _, h | .fn _ :: _, _, h | .nilSlice :: _, _, h | .str _ _ :: _, _, h => by cases h
def smF (n : Nat) (cs : List Chunk) (off : Nat) : Option Bool := if isRaw 0 cs && (cs.length == 2 * n && off == big + n) then some false else none
end Go.Proofs.Ytdleiiboffkidaa
end

/- ---- Rec ---- -/
section
/-
  RationalArithmetic, given that awake is true.
-/
set_option maxRecDepth 100000
namespace Go.Proofs.Ytdleiiboffkidaa
open Go.RowKit

theorem int_raw {w : World} {v : Value} {z : Int} (h : IsInt w v z) : Raw w v (decide (z < 0)) (limbs z.natAbs) ∧ okB (decide (z < 0)) (limbs z.natAbs) = true := by
  obtain ⟨ao, cap, s, n, rfl, h1, h2, h3, H4, H5, H6⟩ := h.open_
  obtain ⟨k1, k2⟩ := isInt_raw h1 h2 h3 H6.out
  have e4 : n = z.natAbs := H4.out
  have e5 : z = sgn s n := H5.out
  have e6 := H6.out
  have es : s = decide (z < 0) := by
    cases s with
    | true => rw [eq_comm, decide_eq_true_iff, e5]; have := e6 rfl; simp [sgn]; omega
    | false => rw [eq_comm, decide_eq_false_iff_not, e5]; simp [sgn]
  rw [← e4, ← es]
  exact ⟨k1, k2⟩
def rawOf (q : Rat) : List (Bool × List Nat) := [(decide (q.num < 0), limbs q.num.natAbs), (decide ((q.den : Int) < 0), limbs (q.den : Int).natAbs)]
theorem smQ_of {q : Rat} (l : LimQ 6 q) {w : World} {v : Value} (h : IsRat w v q) : smQ (decide (q.num < 0)) (limbs q.num.natAbs) (decide ((q.den : Int) < 0)) (limbs (q.den : Int).natAbs) = true := by
  obtain ⟨a, b, c, d, rfl, h1, h2⟩ := h
  obtain ⟨_, k1⟩ := int_raw h1
  obtain ⟨_, k2⟩ := int_raw h2
  have e1 : sgn (decide (q.num < 0)) (val (limbs q.num.natAbs)) = q.num := by rw [val_limbs]; exact sgn_self q.num
  have e2 : sgn (decide ((q.den : Int) < 0)) (val (limbs (q.den : Int).natAbs)) = (q.den : Int) := by rw [val_limbs]; exact sgn_self (q.den : Int)
  have l1 : (limbs q.num.natAbs).length ≤ 6 := l.1
  have l2 : (limbs (q.den : Int).natAbs).length ≤ 6 := l.2
  unfold smQ okQ
  rw [k1, k2, e1, e2, decide_eq_true l1, decide_eq_true l2, decide_eq_true (show 0 < (q.den : Int) by have := q.den_pos; omega)]
  rw [decide_eq_true (show Nat.gcd q.num.natAbs (q.den : Int).natAbs = 1 from q.reduced)]
  rfl
/-- Rows of integers, told by their form. -/
def isVars : Nat → List Chunk → Bool
  | _, [] => true
  | i, .int (.var j) l :: cs => (j == i && l == 6) && isVars (i + 1) cs
  | _, _ => false
def smT (n : Nat) (cs : List Chunk) (off : Nat) : Option Bool := if isVars 0 cs && (cs.length == 2 * n && off == big + n) then some true else none
theorem isVars_spec : ∀ {cs : List Chunk} {i : Nat}, isVars i cs = true → cs = (List.range cs.length).map fun k => .int (.var (i + k)) 6
  | [], _, _ => rfl
  | .int (.var j) l :: cs, i, h => by
    simp only [isVars, Bool.and_eq_true, beq_iff_eq] at h
    obtain ⟨⟨rfl, rfl⟩, h⟩ := h
    have := isVars_spec h
    rw [List.length_cons, List.range_succ_eq_map, List.map_cons, List.map_map, Nat.add_zero]
    congr 1
    refine Eq.trans this (List.map_congr_left fun k _ => ?_)
    show Chunk.int _ _ = Chunk.int _ _
    rw [show j + 1 + k = j + (k + 1) by omega]
  | .int (.lit _) _ :: _, _, h | .int (.rlen _) _ :: _, _, h | .int (.slen _) _ :: _, _, h | .int (.a1 _ _) _ :: _, _, h | .int (.a2 _ _ _) _ :: _, _, h | .int (.a4 _ _ _ _ _) _ :: _, _, h => by cases h
  | .b _ :: _, _, h | .n _ _ :: _, _, h | .raw _ :: _, _, h | .mag _ _ :: _, _, h | .rmag _ :: _, _, h | .fn _ :: _, _, h | .nilSlice :: _, _, h | .str _ _ :: _, _, h => by cases h
theorem int_chunk {E E' : Env} {w : World} {t : IT} {l i : Nat} {vs : List Value} (h : (Chunk.int t l).holds E w vs) (e : E'.r i = (decide (t.den E < 0), limbs (t.den E).natAbs)) : (Chunk.raw i).holds E' w vs := by
  obtain ⟨x, y, rfl, hI, _⟩ := h
  refine ⟨x, y, rfl, ?_⟩
  rw [e]
  exact (int_raw hI).1
def argS (i : Nat) : AV := .val true [.int (.var (2 * i)) 6, .int (.var (2 * i + 1)) 6]
theorem argS_holds {E : Env} {β : Nat → Nat} {w : World} {v : Value} {q : Rat} {i : Nat} (h : IsRat w v q) (l : LimQ 6 q) (e1 : E.i (2 * i) = q.num) (e2 : E.i (2 * i + 1) = (q.den : Int)) : (argS i).holds E β w v := by
  refine one_pair.2 ⟨?_, ?_, ?_⟩
  · show IsPair w v (E.i (2 * i)) (E.i (2 * i + 1)); rw [e1, e2]; exact h
  · show Lim 6 (E.i (2 * i)); rw [e1]; exact l.1
  · show Lim 6 (E.i (2 * i + 1)); rw [e2]; exact l.2
end Go.Proofs.Ytdleiiboffkidaa
end

/- ---- Red ---- -/
section
/-
  RationalArithmetic at any arguments, given that awake is true.
-/
set_option maxRecDepth 100000
namespace Go.Proofs.Ytdleiiboffkidaa
open Go.RowKit

theorem smQ_rat {w : World} {v : Value} {s1 s2 : Bool} {xs1 xs2 : List Nat} (h : RawQ w v s1 xs1 s2 xs2) (hs : smQ s1 xs1 s2 xs2 = true) : ∃ q : Rat, IsRat w v q ∧ LimQ 6 q := by
  unfold smQ okQ at hs
  simp only [Bool.and_eq_true, decide_eq_true_iff] at hs
  obtain ⟨⟨c1, c2⟩, ⟨⟨b1, b2⟩, b3⟩, b4⟩ := hs
  have hp := okQ_pair h b1 b2
  have m1 : Lim 6 (sgn s1 (val xs1)) := by obtain ⟨a, b, c, d, rfl, h1, h2⟩ := h; exact ok_lim h1 b1 c1
  have m2 : Lim 6 (sgn s2 (val xs2)) := by obtain ⟨a, b, c, d, rfl, h1, h2⟩ := h; exact ok_lim h2 b2 c2
  generalize sgn s1 (val xs1) = n at *
  generalize sgn s2 (val xs2) = d at *
  have hd : ((d.natAbs : Nat) : Int) = d := by omega
  refine ⟨⟨n, d.natAbs, by omega, b4⟩, ?_, m1, ?_⟩
  · show IsPair w v n ((d.natAbs : Nat) : Int)
    rw [hd]; exact hp
  · show Lim 6 ((d.natAbs : Nat) : Int)
    rw [hd]; exact m2
end Go.Proofs.Ytdleiiboffkidaa
end

/- ---- Rfa ---- -/
section
/-
  Sign and Cmp of the reference; small on rows of one and of three; what the laws of one and of three numbers share.
-/
set_option maxRecDepth 100000
namespace Go.Proofs.Ytdleiiboffkidaa
open Go.RowKit

theorem rsign_rat_calls (w : World) (v1 : Value) (n d : Int) (h1 : IsPair w v1 n d) (l1 : Lim 100000 n) (l1' : Lim 100000 d) : Calls Try.prog 23 #[v1] w fun e w' => e = .returned (.int .i64 (cmpZ n 0)) ∧ Ext w w' := by
  refine (fun_sound (E := zE [n, d]) (args := [argQ 0]) (T := .leaf [(false, [.n .i64 (.a2 3 (.var 0) (.lit 0))])])
    mixed (cfg_ok (.cons (kIn_ok (f := 58) (g := fun x => .a2 3 x (.lit 0)) (fun x => cmpZ x 0) (fun _ => rfl) (fun w v z h => rsign_calls w v z h) ⟨_, Try.func58, by decide +kernel, by kernel_rfl⟩) .nil))
    no_asm Try.func23 (by decide +kernel) (by kernel_rfl) (by decide +kernel) rfl w [v1] rfl ?_).mono ?_
  · intro i x hx
    match i, hx with
    | 0, hx => injection hx with hx; subst hx; exact ⟨fun _ => 0, v1, rfl, argP_holds h1 l1 l1' rfl rfl⟩
  · rintro e w' ⟨β, v, rfl, hh, ex⟩
    have := one_num.1 hh
    subst this
    exact ⟨rfl, ex⟩
theorem kSgF_ok {E : Env} {f : Nat} (hc : ∀ (w : World) (v1 : Value) (n d : Int), IsPair w v1 n d → Lim 100000 n → Lim 100000 d → Calls Try.prog f #[v1] w fun e w' => e = .returned (.int .i64 (cmpZ n 0)) ∧ Ext w w')
    (hb : ∃ fn, Try.prog.funcs[f]? = some fn ∧ fn.name ≠ "runtime.NumGoroutine" ∧ fn.body.isNone = false) : ConOK Try.prog E f kSg := by
  refine ⟨?_, ?_, hb⟩
  · intro args As r h hG β w vs hv hlen
    unfold kSg at h
    split at h
    · split at h
      · rename_i hlo
        injection h with h
        subst h
        simp only [Bool.and_eq_true, decide_eq_true_iff] at hlo
        obtain ⟨v, rfl, h1⟩ := args1 hv hlen
        obtain ⟨p1, a1, a2⟩ := one_pair.1 h1
        refine (hc w v _ _ p1 (a1.mono hlo.1) (a2.mono hlo.2)).mono ?_
        rintro e w' ⟨rfl, ex⟩
        exact ⟨_, rfl, one_num.2 rfl, ex⟩
      · cases h
    · cases h
  · intro args As r h x off
    unfold kSg at h
    split at h
    · split at h
      · injection h with h; subst h; intro e; cases e
      · cases h
    · cases h
theorem rcmp_rat_calls (w : World) (v1 v2 : Value) (a b : Rat) (h1 : IsRat w v1 a) (h2 : IsRat w v2 b) (l1 : LimQ 100000 a) (l2 : LimQ 100000 b) :
    Calls Try.prog 25 #[v1, v2] w fun e w' => e = .returned (.int .i64 (cmpZ (a.num * (b.den : Int)) (b.num * (a.den : Int)))) ∧ Ext w w' := by
  refine (walkQ2 (T := .leaf [(false, [.n .i64 (.a2 3 (.a2 2 (.var 0) (.var 3)) (.a2 2 (.var 2) (.var 1)))])])
    (tab := (51, kIIn (.a2 3)) :: tabR3 true)
    (.cons (kIIn_ok cmpZ (fun _ _ => rfl) (fun w v1 v2 z1 z2 h1 h2 => rcmp_calls w v1 v2 z1 z2 h1 h2) ⟨_, Try.func51, by decide +kernel, by kernel_rfl⟩) (tabR3_ok (q := true) (fun _ => qE_ok _)))
    Try.func25 (by kernel_rfl) (by decide +kernel) (by decide +kernel) h1 h2 l1 l2).mono ?_
  rintro e w' ⟨β, v, rfl, hh, ex⟩
  have := one_num.1 hh
  subst this
  exact ⟨rfl, ex⟩
def tabT : List (Nat × Con) :=
  (23, kSg)  ::
  
  (25, kCmpQ)  ::
  
  tabQ
theorem tabT_ok {E : Env} (hE : QEnv E) : TabOK Try.prog E tabT := by
  refine .cons (kSgF_ok (fun w v1 n d h l m => rsign_rat_calls w v1 n d h l m) ⟨_, Try.func23, by decide +kernel, by kernel_rfl⟩) ?_ 
  
  refine .cons (kCmpQ_ok hE (fun w v1 v2 a b h1 h2 l1 l2 => rcmp_rat_calls w v1 v2 a b h1 h2 l1 l2) ⟨_, Try.func25, by decide +kernel, by kernel_rfl⟩) ?_
  
  exact tabQ_ok hE

def smOf (a : Rat) : Prop := smQ (decide (a.num < 0)) (limbs a.num.natAbs) (decide ((a.den : Int) < 0)) (limbs (a.den : Int).natAbs) = true
/-- A law of one number, of two, of three numbers: small numbers, or others. -/
def IsTrue (w : World) (e : Ending) (w' : World) : Prop := e = .returned (.bool true) ∧ Ext w w'
/-- Terms for the parts of rational numbers, and what they mean. -/
abbrev IT2 := IT × IT
def qv (i : Nat) : IT2 := (.var (2 * i), .var (2 * i + 1))
def qop (f : Nat) (p q : IT2) : IT2 := (.a4 (2 * f) p.1 p.2 q.1 q.2, .a4 (2 * f + 1) p.1 p.2 q.1 q.2)
def qsame (p q : IT2) : BT := .and (.eq p.1 q.1) (.eq p.2 q.2)
def RepQ (E : Env) (p : IT2) (q : Rat) : Prop := p.1.den E = q.num ∧ p.2.den E = (q.den : Int)
theorem rep_op {E : Env} {f : Nat} {p q : IT2} {a b : Rat} (hf : f ≠ 4) (hp : RepQ E p a) (hq : RepQ E q b) : RepQ E (qop f p q) (ratF f a b) := by
  constructor
  · show fn4 (2 * f) (p.1.den E) (p.2.den E) (q.1.den E) (q.2.den E) = _
    rw [hp.1, hp.2, hq.1, hq.2, fn4_num (by omega), show 2 * f / 2 = f by omega]
  · show fn4 (2 * f + 1) (p.1.den E) (p.2.den E) (q.1.den E) (q.2.den E) = _
    rw [hp.1, hp.2, hq.1, hq.2, fn4_den (by omega) (by omega), show (2 * f + 1) / 2 = f by omega]
theorem rep_div {E : Env} {p q : IT2} {a b : Rat} (hb : b ≠ 0) (hp : RepQ E p a) (hq : RepQ E q b) : RepQ E (qop 4 p q) (a / b) := by
  constructor
  · show fn4 8 (p.1.den E) (p.2.den E) (q.1.den E) (q.2.den E) = _
    rw [hp.1, hp.2, hq.1, hq.2, fn4_num rfl]; rfl
  · show fn4 9 (p.1.den E) (p.2.den E) (q.1.den E) (q.2.den E) = _
    rw [hp.1, hp.2, hq.1, hq.2]
    unfold fn4
    rw [if_neg (by decide), divInt_parts, divInt_parts, if_neg (fun e => hb e.2)]
    rfl
theorem rep_same {E : Env} {p q : IT2} {a b : Rat} (hp : RepQ E p a) (hq : RepQ E q b) (h : a = b) : (qsame p q).den E = true := by
  subst h
  show (p.1.den E == q.1.den E && p.2.den E == q.2.den E) = true
  rw [hp.1, hp.2, hq.1, hq.2]
  simp
theorem rep_v {l : List Rat} {i : Nat} : RepQ (qE l) (qv i) (l.getD i 0) := by
  constructor
  · show (if 2 * i % 2 = 0 then _ else _) = _
    rw [if_pos (by omega), show 2 * i / 2 = i by omega]
  · show (if (2 * i + 1) % 2 = 0 then _ else _) = _
    rw [if_neg (by omega), show (2 * i + 1) / 2 = i by omega]
end Go.Proofs.Ytdleiiboffkidaa
end

/- ---- Flc ---- -/
section
/-
  Package filter: awake.
-/
set_option maxRecDepth 100000
namespace Go.Proofs.Ytdleiiboffkidaa
open Go.RowKit

def kSqF : Con
  | [.val false [.n .i64 t]], _ => match t.cl with
    | some z => if z = 131072 then some (.tup [(false, [.n .u64 (.lit 92681)]), (false, [.b (.lit false)])]) else none
    | none => none
  | _, _ => none
theorem kSqF_ok {E : Env} : ConOK Try.prog E 54 kSqF := by
  refine ⟨?_, ?_, ⟨_, Try.func54, by decide +kernel, by kernel_rfl⟩⟩
  · intro args G r h hG β w vs hv hlen
    unfold kSqF at h
    split at h
    · rename_i t
      split at h
      · rename_i z hz
        split at h
        · rename_i hz2
          subst hz2
          injection h with h
          subst h
          obtain ⟨v, rfl, h1⟩ := args1 hv hlen
          have h1' : v = .int .i64 (t.den E) := one_num.1 h1
          rw [IT.cl_spec hz] at h1'
          subst h1'
          refine (fsqrt_2 w).mono ?_
          rintro e w' ⟨rfl, ex⟩
          exact ⟨_, rfl, ⟨[_, _], rfl, _, _, rfl, one_num.2 rfl, _, _, rfl, one_bool.2 rfl, rfl⟩, ex⟩
        · cases h
      · cases h
    · cases h
  · intro args G r h x off
    unfold kSqF at h
    split at h
    · split at h
      · split at h
        · injection h with h; subst h; intro e; cases e
        · cases h
      · cases h
    · cases h
noncomputable def tabFf : List (Nat × Con) := (39, kI64) :: (41, kMul64) :: (59, kIn fun x => .a2 3 x (.lit 0)) :: tabT
theorem tabFf_ok {E : Env} (hE : QEnv E) : TabOK Try.prog E tabFf :=
  .cons (kI64_ok (fun w v z h => int64_calls w v z h) ⟨_, Try.func39, by decide +kernel, by kernel_rfl⟩) <|
  .cons kMul64_ok <| .cons (kIn_ok (cmpZ · 0) (fun _ => rfl) (fun w v1 z1 h1 => sign_calls w v1 z1 h1) ⟨_, Try.func59, by decide +kernel, by kernel_rfl⟩) (tabT_ok hE)
noncomputable def fL1 : List (Nat × Func) := [(42, Try.f42), (44, Try.f44), (45, Try.f45), (43, Try.f43), (63, Try.f63), (28, Try.f28), (24, Try.f24)]
noncomputable def fL2 : List (Nat × Func) := [(11, Try.f11), (50, Try.f50), (35, Try.f35), (21, Try.f21)]
noncomputable def fL3 : List (Nat × Func) := [(16, Try.f16)]
noncomputable def fL4 : List (Nat × Func) := [(60, Try.f60)]
noncomputable def fL5 : List (Nat × Func) := [(26, Try.f26)]
noncomputable def fL6 : List (Nat × Func) := [(62, Try.f62)]
noncomputable def fL7 : List (Nat × Func) := [(30, Try.f30)]
theorem fL1_ok : InlOK Try.prog fL1 :=
  .cons Try.func42 (by decide +kernel) (by kernel_rfl) <| .cons Try.func44 (by decide +kernel) (by kernel_rfl) <| .cons Try.func45 (by decide +kernel) (by kernel_rfl) <| .cons Try.func43 (by decide +kernel) (by kernel_rfl) <|
  .cons Try.func63 (by decide +kernel) (by kernel_rfl) <| .cons Try.func28 (by decide +kernel) (by kernel_rfl) <| .cons Try.func24 (by decide +kernel) (by kernel_rfl) .nil
theorem fL2_ok : InlOK Try.prog fL2 :=
  .cons Try.func11 (by decide +kernel) (by kernel_rfl) <| .cons Try.func50 (by decide +kernel) (by kernel_rfl) <| .cons Try.func35 (by decide +kernel) (by kernel_rfl) <| .cons Try.func21 (by decide +kernel) (by kernel_rfl) .nil
theorem fL3_ok : InlOK Try.prog fL3 := .cons Try.func16 (by decide +kernel) (by kernel_rfl) .nil
theorem fL4_ok : InlOK Try.prog fL4 := .cons Try.func60 (by decide +kernel) (by kernel_rfl) .nil
theorem fL5_ok : InlOK Try.prog fL5 := .cons Try.func26 (by decide +kernel) (by kernel_rfl) .nil
theorem fL6_ok : InlOK Try.prog fL6 := .cons Try.func62 (by decide +kernel) (by kernel_rfl) .nil
theorem fL7_ok : InlOK Try.prog fL7 := .cons Try.func30 (by decide +kernel) (by kernel_rfl) .nil
noncomputable def cF0 (tab : List (Nat × Con)) : Cfg := cfgT3 (tab ++ tabFf) fL1 fL2 fL3
noncomputable def cF4 (tab : List (Nat × Con)) : Cfg := cfgI (cF0 tab) (cF0 tab) fL4
noncomputable def cF5 (tab : List (Nat × Con)) : Cfg := cfgI (cF4 tab) (cF4 tab) fL5
noncomputable def cF6 (tab : List (Nat × Con)) : Cfg := cfgI (cF5 tab) (cF5 tab) fL6
noncomputable def cF (tab : List (Nat × Con)) : Cfg := cfgI (cF6 tab) (cF6 tab) fL7
theorem cF_ok {E : Env} (hE : QEnv E) {tab : List (Nat × Con)} (h : TabOK Try.prog E tab) : CfgOK Try.prog E (cF tab) := by
  have k0 : CfgOK Try.prog E (cF0 tab) := cfgT3_ok mixed (TabOK.app h (tabFf_ok hE)) fL1_ok fL2_ok fL3_ok
  have k4 : CfgOK Try.prog E (cF4 tab) := cfgI_ok mixed k0 k0 (fun _ => trivial) fL4_ok
  have k5 : CfgOK Try.prog E (cF5 tab) := cfgI_ok mixed k4 k4 (fun _ => trivial) fL5_ok
  have k6 : CfgOK Try.prog E (cF6 tab) := cfgI_ok mixed k5 k5 (fun _ => trivial) fL6_ok
  exact cfgI_ok mixed k6 k6 (fun _ => trivial) fL7_ok
end Go.Proofs.Ytdleiiboffkidaa
end

/- ---- Rint64 ---- -/
section
/-
  Int64, of the reference.
-/
set_option maxRecDepth 100000
namespace Go.Proofs.Ytdleiiboffkidaa
open Go.RowKit

theorem cmpZ_nonneg {a b : Int} (h : b ≤ a) : 0 ≤ cmpZ a b := by
  rcases Int.lt_or_le b a with k | k
  · rw [cmpZ_gt k]; decide
  · rw [cmpZ_eq (by omega)]; decide
theorem cmpZ_nonpos {a b : Int} (h : a ≤ b) : cmpZ a b ≤ 0 := by
  rcases Int.lt_or_le a b with k | k
  · rw [cmpZ_lt k]; decide
  · rw [cmpZ_eq (by omega)]; decide
theorem rcmp_as {w : World} {v1 v2 : Value} {z1 z2 : Int} {k : Int} (h : Hid (cmpZ z1 z2 = k)) (h1 : IsInt w v1 z1) (h2 : IsInt w v2 z2) :
    Calls Try.prog 51 #[v1, v2] w fun e w' => e = .returned (.int .i64 k) ∧ Ext w w' := by
  rw [← h.out]
  exact rcmp_calls w v1 v2 z1 z2 h1 h2
theorem neg_conv2 {m : Int} (n : Nat) (h : (n : Int) = m) (h0 : 0 < n) (k : n ≤ 9223372036854775808) : wrap64 (-(wrap64 m)) = -(n : Int) := by
  simp only [wrap64]
  omega

set_option maxRecDepth 100000 in
set_option maxHeartbeats 1600000 in
theorem rint64_calls (w : World) (v : Value) (z : Int) (h : IsInt w v z) :
    Calls Try.prog 78 #[v] w fun e w' => e = .returned (.tuple #[.int .i64 (i64v z), .bool (i64ok z)]) ∧ Ext w w' := by
  have hI := h
  obtain ⟨ao, cap, s, n, rfl, h1, h2, h3, H4, H5, H6⟩ := h.open_
  obtain ⟨W, hW, eW, c0, c1⟩ := box1 w (.bool s) (.slice ao (limbs n).length cap) 24
  have HC := Lib.hid (And.intro h1 (And.intro h2 h3))
  clear h1 h2 h3
  go_enter Try.func78, Try.ntmps78
  go_wp2_with fail
  clear hW
  refine (rfromInt64_calls _ _ (by omega) (by omega)).mono ?_
  rintro e w1 ⟨x1, rfl, hx1, e1⟩
  replace c0 := e1.cell c0
  replace c1 := e1.cell c1
  replace eW := eW.trans e1
  clear e1
  go_wp2_with fail
  refine (rfromInt64_calls _ _ (by omega) (by omega)).mono ?_
  rintro e w2 ⟨x2, rfl, hx2, e2⟩
  replace c0 := e2.cell c0
  replace c1 := e2.cell c1
  replace eW := eW.trans e2
  replace hx1 := hx1.ext e2
  clear e2
  have i1 := hx1
  have i2 := hx2
  obtain ⟨a1, cp1, s1, n1, rfl, _, _, _, _, _, _⟩ := hx1.open_
  obtain ⟨a2, cp2, s2, n2, rfl, _, _, _, _, _, _⟩ := hx2.open_
  clear hx1 hx2
  obtain ⟨W3, hW3, e3, _, l0, l1, m0, m1⟩ := boxes2 w2 (.bool s1) (.slice a1 (limbs n1).length cp1) (.bool s2) (.slice a2 (limbs n2).length cp2) 24
  replace c0 := e3.cell c0
  replace c1 := e3.cell c1
  replace i1 := i1.ext e3
  replace i2 := i2.ext e3
  have i0 := hI.ext (eW.trans e3)
  replace eW := eW.trans e3
  have HI := Lib.hid (And.intro i0 (And.intro i1 i2))
  clear i0 i1 i2 e3
  rcases Int.lt_or_le z (-9223372036854775808) with hz | hz
  · have HK : Hid (cmpZ z (-9223372036854775808) = -1) := Lib.hid (cmpZ_lt hz)
    have HO := Lib.hid (i64_out (z := z) (.inl hz))
    clear hz
    go_wp2_with fail
    refine (rcmp_as HK HI.out.1 HI.out.2.1).mono ?_
    rintro e w4 ⟨rfl, e4⟩
    go_wp2
    go_ret2
    exact ⟨ret2 HO.out.1.symm HO.out.2.symm, eW.trans e4⟩
  have HK : Hid (∃ k, cmpZ z (-9223372036854775808) = k ∧ 0 ≤ k) := Lib.hid ⟨_, rfl, cmpZ_nonneg hz⟩
  obtain ⟨k, HK1, hk⟩ := HK.out
  replace HK1 := Lib.hid HK1
  clear HK
  rcases Int.lt_or_le 9223372036854775807 z with hy | hy
  · have HK2 : Hid (cmpZ z 9223372036854775807 = 1) := Lib.hid (cmpZ_gt hy)
    have HO := Lib.hid (i64_out (z := z) (.inr hy))
    clear hz hy
    go_wp2_with fail
    refine (rcmp_as HK1 HI.out.1 HI.out.2.1).mono ?_
    rintro e w4 ⟨rfl, e4⟩
    replace c0 := e4.cell c0
    replace c1 := e4.cell c1
    replace m0 := e4.cell m0
    replace m1 := e4.cell m1
    go_wp2_with fail
    refine (rcmp_as HK2 (HI.out.1.ext e4) (HI.out.2.2.ext e4)).mono ?_
    rintro e w5 ⟨rfl, e5⟩
    go_wp2
    go_ret2
    exact ⟨ret2 HO.out.1.symm HO.out.2.symm, (eW.trans e4).trans e5⟩
  have HK : Hid (∃ k, cmpZ z 9223372036854775807 = k ∧ k ≤ 0) := Lib.hid ⟨_, rfl, cmpZ_nonpos hy⟩
  obtain ⟨k', HK2, hk'⟩ := HK.out
  replace HK2 := Lib.hid HK2
  clear HK
  have HZ := Lib.hid (i64_in hz hy)
  have HN := Lib.hid (And.intro hz hy)
  clear hz hy
  go_wp2_with fail
  refine (rcmp_as HK1 HI.out.1 HI.out.2.1).mono ?_
  rintro e w4 ⟨rfl, e4⟩
  replace c0 := e4.cell c0
  replace c1 := e4.cell c1
  replace m0 := e4.cell m0
  replace m1 := e4.cell m1
  go_wp2_with fail
  refine (rcmp_as HK2 (HI.out.1.ext e4) (HI.out.2.2.ext e4)).mono ?_
  rintro e w5 ⟨rfl, e5⟩
  replace c0 := e5.cell c0
  replace c1 := e5.cell c1
  replace eW := (eW.trans e4).trans e5
  clear e4 e5 m0 m1 l0 l1
  have hsc := short_calls w5 ao (limbs n) cap HC.out.1 HC.out.2.1 (HC.out.2.2.ext eW) (by rw [val_limbs]; have := H4.out; have := HN.out; omega)
  rw [val_limbs] at hsc
  have HS := Lib.hid hsc
  clear hsc
  go_wp2_with fail
  refine HS.out.mono ?_
  rintro e w6 ⟨rfl, rfl⟩
  generalize hm : (n : Int) = m
  have HM := Lib.hid hm
  clear hm
  cases s
  · go_wp2
    go_ret2
    exact ⟨ret2 (by rw [HZ.out.1, H5.out]; have := HN.out; have := HM.out; have := H5.out; simp [sgn] at this ⊢; exact (wrap64_small n HM.out (by omega)).trans HM.out.symm) HZ.out.2.symm, eW⟩
  · have HP := Lib.hid (H6.out rfl)
    go_wp2
    go_ret2
    exact ⟨ret2 (by rw [HZ.out.1, H5.out]; have := HN.out; have := HP.out; have := H5.out; have := H4.out; simp [sgn]; exact neg_conv2 n HM.out (by omega) (by omega)) HZ.out.2.symm, eW⟩

end Go.Proofs.Ytdleiiboffkidaa
end

/- ---- Fld ---- -/
section
/-
  Package filter: awake, and the laws of signs and sums.
-/
set_option maxRecDepth 100000
namespace Go.Proofs.Ytdleiiboffkidaa
open Go.RowKit

noncomputable def tabS : List (Nat × Con) := [(54, kSqF)]
theorem tabS_ok {E : Env} : TabOK Try.prog E tabS := .cons kSqF_ok .nil
def lfF (t : BT) : Tree := .leaf [(false, [.b t])]
theorem lfF_out {E : Env} {β : Nat → Nat} {w : World} {v : Value} {t : BT} (h : (toAV ((lfF t).pick E)).holds E β w v) : v = .bool (t.den E) := one_bool.1 h
theorem awakeF_calls (w : World) : Calls Try.prog 9 #[] w fun e w' => e = .returned (.bool true) ∧ Ext w w' := by
  refine (fun_sound (C := cF tabS) (E := qE []) (args := []) (T := lfF (.lit true)) mixed (cF_ok (qE_ok _) tabS_ok) no_asm Try.func9 (by decide +kernel) (by kernel_rfl) (by decide +kernel) rfl w [] rfl (fun i x hx => by simp at hx)).mono ?_
  rintro e w' ⟨β, u, rfl, hh, ex⟩
  rw [lfF_out hh]
  exact ⟨rfl, ex⟩
def kTruF : Con
  | [], _ => some (.val false [.b (.lit true)])
  | _, _ => none
theorem kAwF_ok {E : Env} : ConOK Try.prog E 9 kTruF := by
  refine ⟨?_, ?_, ⟨_, Try.func9, by decide +kernel, by kernel_rfl⟩⟩
  · intro args G r h hG β w vs hv hlen
    unfold kTruF at h
    split at h
    · injection h with h
      subst h
      obtain rfl : vs = [] := by simpa using hlen
      refine (awakeF_calls w).mono ?_
      rintro e w' ⟨rfl, ex⟩
      exact ⟨_, rfl, one_bool.2 rfl, ex⟩
    · cases h
  · intro args G r h x off
    unfold kTruF at h
    split at h
    · injection h with h; subst h; intro e; cases e
    · cases h
noncomputable def gL1 : List (Nat × Func) := [(15, Try.f15), (17, Try.f17), (28, Try.f28), (66, Try.f66), (65, Try.f65), (63, Try.f63), (44, Try.f44), (13, Try.f13)]
noncomputable def gL2 : List (Nat × Func) := [(35, Try.f35), (47, Try.f47)]
noncomputable def gL3 : List (Nat × Func) := [(61, Try.f61)]
theorem gL1_ok : InlOK Try.prog gL1 :=
  .cons Try.func15 (by decide +kernel) (by kernel_rfl) <| .cons Try.func17 (by decide +kernel) (by kernel_rfl) <| .cons Try.func28 (by decide +kernel) (by kernel_rfl) <| .cons Try.func66 (by decide +kernel) (by kernel_rfl) <|
  .cons Try.func65 (by decide +kernel) (by kernel_rfl) <| .cons Try.func63 (by decide +kernel) (by kernel_rfl) <| .cons Try.func44 (by decide +kernel) (by kernel_rfl) <| .cons Try.func13 (by decide +kernel) (by kernel_rfl) .nil
theorem gL2_ok : InlOK Try.prog gL2 := .cons Try.func35 (by decide +kernel) (by kernel_rfl) <| .cons Try.func47 (by decide +kernel) (by kernel_rfl) .nil
theorem gL3_ok : InlOK Try.prog gL3 := .cons Try.func61 (by decide +kernel) (by kernel_rfl) .nil
noncomputable def tabG : List (Nat × Con) := (9, kTruF) :: (78, kI64) :: (tabR1 ++ tabT)
theorem tabG_ok {E : Env} (hE : QEnv E) : TabOK Try.prog E tabG := .cons kAwF_ok <| .cons (kI64_ok (fun w v z h => rint64_calls w v z h) ⟨_, Try.func78, by decide +kernel, by kernel_rfl⟩) <| TabOK.app tabR1_ok (tabT_ok hE)
noncomputable def cG : Cfg := cfgT3 tabG gL1 gL2 gL3
theorem cG_ok {E : Env} (hE : QEnv E) : CfgOK Try.prog E cG := cfgT3_ok mixed (tabG_ok hE) gL1_ok gL2_ok gL3_ok
end Go.Proofs.Ytdleiiboffkidaa
end

/- ---- Fle ---- -/
section
/-
  FilterSign.
-/
set_option maxRecDepth 100000
namespace Go.Proofs.Ytdleiiboffkidaa
open Go.RowKit

def allT : Tree → Bool
  | .leaf [(false, [.b (.lit true)])] => true
  | .leaf _ => false
  | .ite _ x y => allT x && allT y
theorem allT_out {E : Env} {β : Nat → Nat} {w : World} {v : Value} : ∀ {T : Tree}, allT T = true → (toAV (T.pick E)).holds E β w v → v = .bool true := by
  intro T
  induction T with
  | leaf l =>
    intro h hh
    unfold allT at h
    split at h
    · rename_i e
      injection e with e
      subst e
      exact one_bool.1 hh
    · cases h
    · rename_i e
      cases e
  | ite b x y ihx ihy =>
    intro h hh
    simp only [allT, Bool.and_eq_true] at h
    simp only [Tree.pick] at hh
    split at hh
    · exact ihx h.1 hh
    · exact ihy h.2 hh
def okTr : Option Tree → Bool
  | some T => allT T
  | none => false
theorem okTr_spec {o : Option Tree} (h : okTr o = true) : ∃ T, o = some T ∧ allT T = true := by
  cases o with
  | none => cases h
  | some T => exact ⟨T, rfl, h⟩
def IsT (w : World) (e : Ending) (w' : World) : Prop := e = .returned (.bool true) ∧ Ext w w'
def aIv (i : Nat) : AV := .val true [.n .i64 (.var (2 * i)), .n .i64 (.var (2 * i + 2))]
theorem qE_int {l : List Rat} {i : Nat} {x : Int} (h : l.getD i 0 = (x : Rat)) : (qE l).i (2 * i) = x := by
  show (if 2 * i % 2 = 0 then (l.getD (2 * i / 2) 0).num else _) = x
  rw [if_pos (by omega), show 2 * i / 2 = i by omega, h, Rat.num_intCast]
theorem aIv_holds {l : List Rat} {β : Nat → Nat} {w : World} {i : Nat} {x y : Int} (hx : l.getD i 0 = (x : Rat)) (hy : l.getD (i + 1) 0 = (y : Rat)) : (aIv i).holds (qE l) β w (.agg #[.int .i64 x, .int .i64 y]) := by
  refine ⟨[_, _], rfl, [_], _, rfl, ?_, [_], [], rfl, ?_, rfl⟩
  · show [Value.int .i64 x] = [Value.int .i64 ((qE l).i (2 * i))]
    rw [qE_int hx]
  · show [Value.int .i64 y] = [Value.int .i64 ((qE l).i (2 * (i + 1)))]
    rw [qE_int hy]
end Go.Proofs.Ytdleiiboffkidaa
end

/- ---- Flf ---- -/
section
/-
  FilterSums.
-/
set_option maxRecDepth 100000
namespace Go.Proofs.Ytdleiiboffkidaa
open Go.RowKit

def lM : IT := .lit (-2305843009213693952)
def lP : IT := .lit 2305843009213693952
def gR (t : IT) : Asm := [(.le (.lit (-9223372036854775808)) t, true), (.le t (.lit 9223372036854775807), true)]
def gP (i : Nat) (p q r : Bool) : Asm := [(.le (.var (2 * i)) (.var (2 * i + 2)), p), (.le lM (.var (2 * i)), q), (.le (.var (2 * i + 2)) lP, r)]
def sS0 : IT := .a2 0 (.var 0) (.var 4)
def sS1 : IT := .a2 0 (.var 2) (.var 6)
def gSum (b c : Bool) : Asm := gP 0 true true true ++ (gP 2 true true true ++ (gR (.var 0) ++ (gR (.var 2) ++ (gR (.var 4) ++ (gR (.var 6) ++ (gR sS0 ++ (gR sS1 ++
  [(.le sS0 sS1, true), (.le lM sS0, b), (.le sS1 lP, c), (.lt (.a1 20 sS1) (.a1 20 sS0), false), (.lt (.a1 20 sS0) lM, !b), (.lt lP (.a1 20 sS1), !c), (.eq (.a1 20 sS0) sS0, true), (.eq (.a1 20 sS1) sS1, true)])))))))
theorem asm_app {E : Env} {G H : Asm} (h : G.holds E) (k : H.holds E) : Asm.holds E (G ++ H) := fun p hp => by
  rcases List.mem_append.1 hp with hp | hp
  · exact h p hp
  · exact k p hp
theorem asm_c {E : Env} {t : BT} {b : Bool} {G : Asm} (h : t.den E = b) (k : G.holds E) : Asm.holds E ((t, b) :: G) := fun p hp => by
  rcases List.mem_cons.1 hp with rfl | hp
  · exact h
  · exact k p hp
theorem gR_ok {E : Env} {t : IT} (h : -9223372036854775808 ≤ t.den E ∧ t.den E ≤ 9223372036854775807) : Asm.holds E (gR t) := asm_c (decide_eq_true h.1) (asm_c (decide_eq_true h.2) no_asm)
def Prp (x y : Int) : Prop := x ≤ y ∧ -2305843009213693952 ≤ x ∧ y ≤ 2305843009213693952
theorem gP_ok {E : Env} {i : Nat} {x y : Int} {p q r : Bool} (hx : E.i (2 * i) = x) (hy : E.i (2 * i + 2) = y) (h1 : decide (x ≤ y) = p) (h2 : decide (-2305843009213693952 ≤ x) = q) (h3 : decide (y ≤ 2305843009213693952) = r) : Asm.holds E (gP i p q r) := by
  subst hx hy
  exact asm_c h1 (asm_c h2 (asm_c h3 no_asm))
end Go.Proofs.Ytdleiiboffkidaa
end

/- ---- Flg ---- -/
section
/-
  Package filter: quotients of two words.
-/
set_option maxRecDepth 100000
namespace Go.Proofs.Ytdleiiboffkidaa
open Go.RowKit

def twoW (hi lo : IT) : IT := .a2 0 (.a2 17 hi (.lit 64)) lo
def kDiv64 : Con
  | [.val false [.n .u64 hi], .val false [.n .u64 lo], .val false [.n .u64 y]], G => if u64T G hi && (u64T G lo && (u64T G y && (BT.lt hi y).ev G == some true)) then
      some (.tup [(false, [.n .u64 (IT.a2 16 (twoW hi lo) y).fold]), (false, [.n .u64 (IT.a2 15 (twoW hi lo) y).fold])]) else none
  | _, _ => none
theorem kDiv64_ok {E : Env} : ConOK Try.prog E 43 kDiv64 := by
  refine ⟨?_, ?_, ⟨_, Try.func43, by decide +kernel, by kernel_rfl⟩⟩
  · intro args G r h hG β w vs hv hlen
    unfold kDiv64 at h
    split at h
    · rename_i a b c
      split at h
      · rename_i hc
        simp only [Bool.and_eq_true, beq_iff_eq] at hc
        obtain ⟨c1, c2, c3, c4⟩ := hc
        obtain ⟨a1, a2⟩ := u64T_spec hG c1
        obtain ⟨b1, b2⟩ := u64T_spec hG c2
        obtain ⟨y1, y2⟩ := u64T_spec hG c3
        have hlt : a.den E < c.den E := of_decide_eq_true (BT.ev_spec hG c4)
        injection h with h
        subst h
        obtain ⟨v1, h1, g1⟩ := hv 0 _ rfl
        obtain ⟨v2, h2, g2⟩ := hv 1 _ rfl
        obtain ⟨v3, h3, g3⟩ := hv 2 _ rfl
        obtain rfl : vs = [v1, v2, v3] := by
          match vs, hlen, h1, h2, h3 with
          | [p, q, r], _, h1, h2, h3 =>
            injection h1 with h1; injection h2 with h2; injection h3 with h3
            subst h1 h2 h3; rfl
        have g1' := one_num.1 g1
        have g2' := one_num.1 g2
        have g3' := one_num.1 g3
        obtain ⟨x, hx⟩ : ∃ x : Nat, a.den E = (x : Int) := ⟨(a.den E).toNat, by omega⟩
        obtain ⟨l, hl⟩ : ∃ l : Nat, b.den E = (l : Int) := ⟨(b.den E).toNat, by omega⟩
        obtain ⟨y, hy⟩ : ∃ y : Nat, c.den E = (y : Int) := ⟨(c.den E).toNat, by omega⟩
        rw [hx] at g1'
        rw [hl] at g2'
        rw [hy] at g3'
        subst g1' g2' g3'
        have hw : (twoW a b).den E = ((x * 18446744073709551616 + l : Nat) : Int) := by
          show a.den E * 2 ^ (Int.toNat 64) + b.den E = _
          rw [hx, hl]
          have : (2 : Int) ^ (Int.toNat 64) = 18446744073709551616 := rfl
          rw [this]
          omega
        refine (div64_any w x l y (by omega) (by omega) (by omega)).mono ?_
        rintro e w' ⟨rfl, he⟩
        refine ⟨_, rfl, ⟨[_, _], rfl, _, _, rfl, one_num.2 ?_, _, _, rfl, one_num.2 ?_, rfl⟩, he⟩
        · rw [IT.fold_den]
          show _ = Value.int .u64 (((twoW a b).den E).tdiv (c.den E))
          rw [hw, hy, ← Int.ofNat_tdiv]
        · rw [IT.fold_den]
          show _ = Value.int .u64 (((twoW a b).den E).tmod (c.den E))
          rw [hw, hy, ← Int.ofNat_tmod]
      · cases h
    · cases h
  · intro args G r h x off
    unfold kDiv64 at h
    split at h
    · split at h
      · injection h with h; subst h; intro e; cases e
      · cases h
    · cases h
end Go.Proofs.Ytdleiiboffkidaa
end

/- ---- Iea ---- -/
section
/-
  Rounding of floats, in numbers.
-/
set_option maxRecDepth 100000
namespace Go.Proofs.Ytdleiiboffkidaa
open Ieee

theorem cut_even {n drop : Nat} (h : drop ≤ n.log2 + 2) : 2 * (Toward.even.cut false n drop * 2 ^ drop) ≤ 2 * n + 2 ^ drop ∧ 2 * n ≤ 2 * (Toward.even.cut false n drop * 2 ^ drop) + 2 ^ drop := by
  unfold Toward.cut
  rw [Nat.min_eq_left h]
  have hg : 1 <<< drop = 2 ^ drop := by rw [Nat.shiftLeft_eq, Nat.one_mul]
  have hp : 0 < 2 ^ drop := Nat.pow_pos (by decide)
  simp only [hg]
  generalize 2 ^ drop = g at *
  have hn : n / g * g + n % g = n := by have := Nat.div_add_mod n g; rw [Nat.mul_comm] at this; exact this
  have hr : n % g < g := Nat.mod_lt _ hp
  generalize n / g = q at *
  generalize n % g = r at *
  have e : ∀ b : Bool, (q + b.toNat) * g = q * g + (if b then g else 0) := by
    intro b
    cases b
    · simp
    · simp [Nat.add_mul]
  rw [e]
  generalize q * g = Q at *
  split
  · rename_i hb
    simp only [Bool.or_eq_true, decide_eq_true_iff, Bool.and_eq_true, beq_iff_eq] at hb
    rcases hb with hb | ⟨hb, _⟩ <;> omega
  · rename_i hb
    simp only [Bool.or_eq_true, decide_eq_true_iff, Bool.and_eq_true, beq_iff_eq, not_or] at hb
    omega
theorem cut_zero {n : Nat} : Toward.even.cut false n 0 = n := by
  have h := cut_even (n := n) (drop := 0) (by omega)
  rw [Nat.pow_zero] at h
  omega
/-- A normal number, read. -/
theorem read_normal {k : Nat} {last : Int} (h1 : 4503599627370496 ≤ k) (h2 : k < 9007199254740992) (h3 : -1074 ≤ last) (h4 : last ≤ 900) :
    double.read ((last + 1074).toNat * 4503599627370496 + k) = .number false k last := by
  obtain ⟨L, hL⟩ : ∃ L : Nat, last = (L : Int) - 1074 := ⟨(last + 1074).toNat, by omega⟩
  subst hL
  have e0 : ((L : Int) - 1074 + 1074).toNat = L := by omega
  rw [e0]
  have hL2 : L ≤ 1974 := by omega
  unfold Format.read
  have s1 : double.signWeight = 9223372036854775808 := by decide
  have s2 : double.binade = 4503599627370496 := by decide
  have s3 : double.infRung = 9218868437227405312 := by decide
  have s4 : double.leastPlace = -1074 := by decide
  simp only [s1, s2, s3, s4]
  have m0 : (L * 4503599627370496 + k) / 9223372036854775808 % 2 = 0 := by omega
  have m1 : (L * 4503599627370496 + k) % 9223372036854775808 = L * 4503599627370496 + k := by omega
  simp only [m0, m1]
  have c1 : ¬ (L * 4503599627370496 + k < 4503599627370496) := by omega
  have c2 : L * 4503599627370496 + k < 9218868437227405312 := by omega
  simp only [c1, c2, if_false, if_true]
  have m2 : (L * 4503599627370496 + k) / 4503599627370496 = L + 1 := by omega
  have m3 : (L * 4503599627370496 + k) % 4503599627370496 = k - 4503599627370496 := by omega
  simp only [m2, m3]
  have e1 : 4503599627370496 + (k - 4503599627370496) = k := by omega
  have e2 : (-1074 : Int) + ((L + 1 - 1 : Nat) : Int) = (L : Int) - 1074 := by omega
  rw [e1, e2]
  rfl
theorem log2_bounds {n : Nat} (h : n ≠ 0) : 2 ^ n.log2 ≤ n ∧ n < 2 ^ (n.log2 + 1) := ⟨Nat.log2_self_le h, Nat.lt_log2_self⟩
/-- Numbers of at most 53 digits are written as they are. -/
theorem near_exact {m : Nat} {p : Int} (h0 : m ≠ 0) (hb : m.log2 ≤ 52) (h1 : -1000 ≤ p + m.log2 - 52) (h2 : p + m.log2 - 52 ≤ 900) :
    double.read (double.nearest false m p) = .number false (m * 2 ^ (52 - m.log2)) (p + m.log2 - 52) := by
  obtain ⟨b1, b2⟩ := log2_bounds h0
  unfold Format.nearest
  rw [if_neg h0]
  have s4 : double.leastPlace = -1074 := by decide
  have s5 : (double.fractionBits : Int) = 52 := by decide
  have s2 : double.binade = 4503599627370496 := by decide
  have s3 : double.infRung = 9218868437227405312 := by decide
  simp only [s4, s5, s2, s3]
  have hlast : max (p + (m.log2 : Int) - 52) (-1074) = p + m.log2 - 52 := by omega
  rw [hlast]
  have hd : (p + (m.log2 : Int) - 52 - p).toNat = 0 := by omega
  have hu : (p - (p + (m.log2 : Int) - 52)).toNat = 52 - m.log2 := by omega
  rw [hd, hu, cut_zero, Nat.shiftLeft_eq]
  have k1 : 4503599627370496 ≤ m * 2 ^ (52 - m.log2) := by
    have e : (4503599627370496 : Nat) = 2 ^ m.log2 * 2 ^ (52 - m.log2) := by rw [← Nat.pow_add, show m.log2 + (52 - m.log2) = 52 by omega]
    rw [e]
    exact Nat.mul_le_mul_right _ b1
  have k2 : m * 2 ^ (52 - m.log2) < 9007199254740992 := by
    have e : (9007199254740992 : Nat) = 2 ^ (m.log2 + 1) * 2 ^ (52 - m.log2) := by rw [← Nat.pow_add, show m.log2 + 1 + (52 - m.log2) = 53 by omega]
    rw [e]
    exact Nat.mul_lt_mul_of_pos_right b2 (Nat.pow_pos (by decide))
  generalize m * 2 ^ (52 - m.log2) = k at *
  generalize p + (m.log2 : Int) - 52 = last at *
  have hr := read_normal k1 k2 (by omega) h2
  obtain ⟨L, hL⟩ : ∃ L, L = (last + 1074).toNat := ⟨_, rfl⟩
  have hs : (last - -1074).toNat = L := by omega
  have hL2 : L ≤ 1974 := by omega
  rw [← hL] at hr
  rw [hs]
  have hm : L * 4503599627370496 + k ≤ 9218868437227405312 := by omega
  rw [Nat.min_eq_left hm]
  exact hr
/-- Integers of more than 53 digits are rounded. -/
theorem near_round {n d : Nat} (hd : n.log2 = 52 + d) (h0 : 1 ≤ d) (h2 : d ≤ 100) :
    ∃ k e : Nat, double.read (double.nearest false n 0) = .number false k (e : Int) ∧ 4503599627370496 ≤ k ∧ k < 9007199254740992 ∧ 2 * (k * 2 ^ e) ≤ 2 * n + 2 ^ d ∧ 2 * n ≤ 2 * (k * 2 ^ e) + 2 ^ d ∧ (e = d ∨ e = d + 1 ∧ k = 4503599627370496) := by
  have hn : n ≠ 0 := by
    intro h
    subst h
    simp at hd
    omega
  obtain ⟨b1, b2⟩ := log2_bounds hn
  rw [hd] at b1 b2
  have hcut := cut_even (n := n) (drop := d) (by omega)
  have hP : 0 < 2 ^ d := Nat.pow_pos (by decide)
  have q1 : (2 : Nat) ^ 52 = 4503599627370496 := by decide
  have q2 : (2 : Nat) ^ 53 = 9007199254740992 := by decide
  have p1 : (2 : Nat) ^ (52 + d) = 4503599627370496 * 2 ^ d := by rw [Nat.pow_add, q1]
  have p2 : (2 : Nat) ^ (52 + d + 1) = 9007199254740992 * 2 ^ d := by
    rw [show 52 + d + 1 = 53 + d by omega, Nat.pow_add, q2]
  rw [p1] at b1
  rw [p2] at b2
  have p3 : (2 : Nat) ^ (d + 1) = 2 * 2 ^ d := by rw [Nat.pow_succ, Nat.mul_comm]
  obtain ⟨c, hc⟩ : ∃ c, c = Toward.even.cut false n d := ⟨_, rfl⟩
  rw [← hc] at hcut
  have hw : double.nearest false n 0 = min ((d + 1074) * 4503599627370496 + c) 9218868437227405312 := by
    unfold Format.nearest
    rw [if_neg hn]
    have s4 : double.leastPlace = -1074 := by decide
    have s5 : (double.fractionBits : Int) = 52 := by decide
    have s2 : double.binade = 4503599627370496 := by decide
    have s3 : double.infRung = 9218868437227405312 := by decide
    simp only [s4, s5, s2, s3, hd]
    have hlast : max ((0 : Int) + ((52 + d : Nat) : Int) - 52) (-1074) = (d : Int) := by omega
    rw [hlast]
    have e1 : ((0 : Int) - (d : Int)).toNat = 0 := by omega
    have e2 : ((d : Int) - 0).toNat = d := by omega
    have e3 : ((d : Int) - -1074).toNat = d + 1074 := by omega
    rw [e1, e2, e3, Nat.shiftLeft_zero, ← hc]
    simp only [Format.word, Bool.false_eq_true, if_false]
  have c1 : 4503599627370496 ≤ c := by
    refine Decidable.byContradiction fun h => ?_
    have h' : c + 1 ≤ 4503599627370496 := by omega
    have := Nat.mul_le_mul_right (2 ^ d) h'
    rw [Nat.add_mul, Nat.one_mul] at this
    omega
  have c2 : c ≤ 9007199254740992 := by
    refine Decidable.byContradiction fun h => ?_
    have h' : 9007199254740992 + 1 ≤ c := by omega
    have := Nat.mul_le_mul_right (2 ^ d) h'
    rw [Nat.add_mul, Nat.one_mul] at this
    omega
  rw [hw]
  clear hw hc
  have hle : (d + 1074) * 4503599627370496 + c ≤ 9218868437227405312 := by omega
  rw [Nat.min_eq_left hle]
  rcases Nat.lt_or_ge c 9007199254740992 with h | h
  · have hr := read_normal (k := c) (last := (d : Int)) c1 h (by omega) (by omega)
    have e3 : ((d : Int) + 1074).toNat = d + 1074 := by omega
    rw [e3] at hr
    exact ⟨c, d, hr, c1, h, hcut.1, hcut.2, .inl rfl⟩
  · have hcc : c = 9007199254740992 := by omega
    have hr := read_normal (k := 4503599627370496) (last := ((d + 1 : Nat) : Int)) (by omega) (by omega) (by omega) (by omega)
    have e3 : (((d + 1 : Nat) : Int) + 1074).toNat = d + 1075 := by omega
    rw [e3] at hr
    have e4 : (d + 1074) * 4503599627370496 + c = (d + 1075) * 4503599627370496 + 4503599627370496 := by omega
    rw [e4]
    refine ⟨4503599627370496, d + 1, hr, by omega, by omega, ?_, ?_, .inr ⟨rfl, rfl⟩⟩
    · rw [p3]; rw [hcc] at hcut; omega
    · rw [p3]; rw [hcc] at hcut; omega
/-- The root by digits is the root rounded down. -/
theorem rootFrom_spec {n : Nat} : ∀ (todo root : Nat), root * root ≤ n → n < (root + 2 ^ todo) * (root + 2 ^ todo) → Datum.rootFrom n todo root * Datum.rootFrom n todo root ≤ n ∧ n < (Datum.rootFrom n todo root + 1) * (Datum.rootFrom n todo root + 1)
  | 0, root, h1, h2 => by
    unfold Datum.rootFrom
    exact ⟨h1, h2⟩
  | todo + 1, root, h1, h2 => by
    have hg : 1 <<< todo = 2 ^ todo := by rw [Nat.shiftLeft_eq, Nat.one_mul]
    have hs : 2 ^ (todo + 1) = 2 ^ todo + 2 ^ todo := by rw [Nat.pow_succ]; omega
    rw [hs, ← Nat.add_assoc] at h2
    unfold Datum.rootFrom
    simp only [hg]
    split
    · rename_i h
      exact rootFrom_spec todo _ h h2
    · rename_i h
      exact rootFrom_spec todo _ h1 (by omega)
theorem root_digits (n : Nat) : Datum.rootFrom n (n.log2 / 2 + 1) 0 * Datum.rootFrom n (n.log2 / 2 + 1) 0 ≤ n ∧ n < (Datum.rootFrom n (n.log2 / 2 + 1) 0 + 1) * (Datum.rootFrom n (n.log2 / 2 + 1) 0 + 1) := by
  refine rootFrom_spec _ _ (by omega) ?_
  rw [Nat.zero_add, ← Nat.pow_add]
  refine Nat.lt_of_lt_of_le (Nat.lt_log2_self (n := n)) (Nat.pow_le_pow_right (by decide) (by omega))
theorem cut_mul {k t : Nat} (h : t ≤ (k * 2 ^ t).log2 + 2) : Toward.even.cut false (k * 2 ^ t) t = k := by
  obtain ⟨h1, h2⟩ := cut_even h
  have hg : 0 < 2 ^ t := Nat.pow_pos (by decide)
  generalize Toward.even.cut false (k * 2 ^ t) t = c at *
  generalize 2 ^ t = g at *
  rcases Nat.lt_trichotomy c k with hc | hc | hc
  · exfalso
    have := Nat.mul_le_mul_right g (show c + 1 ≤ k by omega)
    rw [Nat.add_mul, Nat.one_mul] at this
    omega
  · exact hc
  · exfalso
    have := Nat.mul_le_mul_right g (show k + 1 ≤ c by omega)
    rw [Nat.add_mul, Nat.one_mul] at this
    omega
theorem log2_mul {k t : Nat} (h1 : 4503599627370496 ≤ k) (h2 : k < 9007199254740992) : (k * 2 ^ t).log2 = 52 + t := by
  have q1 : (2 : Nat) ^ 52 = 4503599627370496 := by decide
  have q2 : (2 : Nat) ^ 53 = 9007199254740992 := by decide
  have hg : 0 < 2 ^ t := Nat.pow_pos (by decide)
  have hne : k * 2 ^ t ≠ 0 := Nat.ne_of_gt (Nat.mul_pos (by omega) hg)
  refine (Nat.log2_eq_iff hne).2 ⟨?_, ?_⟩
  · rw [Nat.pow_add, q1]
    exact Nat.mul_le_mul_right _ h1
  · rw [show 52 + t + 1 = 53 + t by omega, Nat.pow_add, q2]
    exact Nat.mul_lt_mul_of_pos_right h2 hg
/-- A normal number with zeros behind it. -/
theorem near_shift {k t : Nat} {p : Int} (h1 : 4503599627370496 ≤ k) (h2 : k < 9007199254740992) (h3 : -1000 ≤ p + t) (h4 : p + t ≤ 900) :
    double.read (double.nearest false (k * 2 ^ t) p) = .number false k (p + t) := by
  have hl := log2_mul (t := t) h1 h2
  have hg : 0 < 2 ^ t := Nat.pow_pos (by decide)
  have hne : k * 2 ^ t ≠ 0 := Nat.ne_of_gt (Nat.mul_pos (by omega) hg)
  have hc : Toward.even.cut false (k * 2 ^ t) t = k := cut_mul (by omega)
  have hr := read_normal (k := k) (last := p + t) h1 h2 (by omega) h4
  obtain ⟨L, hL⟩ : ∃ L, L = (p + (t : Int) + 1074).toNat := ⟨_, rfl⟩
  have hw : double.nearest false (k * 2 ^ t) p = min (L * 4503599627370496 + k) 9218868437227405312 := by
    unfold Format.nearest
    rw [if_neg hne]
    have s4 : double.leastPlace = -1074 := by decide
    have s5 : (double.fractionBits : Int) = 52 := by decide
    have s2 : double.binade = 4503599627370496 := by decide
    have s3 : double.infRung = 9218868437227405312 := by decide
    simp only [s4, s5, s2, s3, hl]
    have hlast : max (p + ((52 + t : Nat) : Int) - 52) (-1074) = p + t := by omega
    rw [hlast]
    have e1 : (p - (p + (t : Int))).toNat = 0 := by omega
    have e2 : (p + (t : Int) - p).toNat = t := by omega
    have e3 : (p + (t : Int) - -1074).toNat = L := by omega
    rw [e1, e2, e3, Nat.shiftLeft_zero, hc]
    simp only [Format.word, Bool.false_eq_true, if_false]
  rw [← hL] at hr
  rw [hw]
  have hL2 : L ≤ 1974 := by omega
  clear hw hc hl hL
  have hle : L * 4503599627370496 + k ≤ 9218868437227405312 := by omega
  rw [Nat.min_eq_left hle]
  exact hr
/-- Any number of more than 53 digits is rounded: c counts units of the last place that is kept, k and e the same after a carry. -/
theorem near_place {n d : Nat} {p : Int} (hd : n.log2 = 52 + d) (h1 : -1000 ≤ p + d) (h2 : p + d ≤ 800) :
    ∃ c k e : Nat, double.read (double.nearest false n p) = .number false k (p + d + e) ∧ 4503599627370496 ≤ k ∧ k < 9007199254740992 ∧ (k * 2 ^ e = c ∧ e ≤ 1) ∧ 2 * (c * 2 ^ d) ≤ 2 * n + 2 ^ d ∧ 2 * n ≤ 2 * (c * 2 ^ d) + 2 ^ d := by
  have hn : n ≠ 0 := by
    intro h
    subst h
    simp at hd
    omega
  obtain ⟨b1, b2⟩ := log2_bounds hn
  rw [hd] at b1 b2
  have hcut := cut_even (n := n) (drop := d) (by omega)
  have hP : 0 < 2 ^ d := Nat.pow_pos (by decide)
  have q1 : (2 : Nat) ^ 52 = 4503599627370496 := by decide
  have q2 : (2 : Nat) ^ 53 = 9007199254740992 := by decide
  have p1 : (2 : Nat) ^ (52 + d) = 4503599627370496 * 2 ^ d := by rw [Nat.pow_add, q1]
  have p2 : (2 : Nat) ^ (52 + d + 1) = 9007199254740992 * 2 ^ d := by
    rw [show 52 + d + 1 = 53 + d by omega, Nat.pow_add, q2]
  rw [p1] at b1
  rw [p2] at b2
  obtain ⟨c, hc⟩ : ∃ c, c = Toward.even.cut false n d := ⟨_, rfl⟩
  rw [← hc] at hcut
  obtain ⟨L, hL⟩ : ∃ L, L = (p + (d : Int) + 1074).toNat := ⟨_, rfl⟩
  have hw : double.nearest false n p = min (L * 4503599627370496 + c) 9218868437227405312 := by
    unfold Format.nearest
    rw [if_neg hn]
    have s4 : double.leastPlace = -1074 := by decide
    have s5 : (double.fractionBits : Int) = 52 := by decide
    have s2 : double.binade = 4503599627370496 := by decide
    have s3 : double.infRung = 9218868437227405312 := by decide
    simp only [s4, s5, s2, s3, hd]
    have hlast : max (p + ((52 + d : Nat) : Int) - 52) (-1074) = p + (d : Int) := by omega
    rw [hlast]
    have e1 : (p - (p + (d : Int))).toNat = 0 := by omega
    have e2 : (p + (d : Int) - p).toNat = d := by omega
    have e3 : (p + (d : Int) - -1074).toNat = L := by omega
    rw [e1, e2, e3, Nat.shiftLeft_zero, ← hc]
    simp only [Format.word, Bool.false_eq_true, if_false]
  have c1 : 4503599627370496 ≤ c := by
    refine Decidable.byContradiction fun h => ?_
    have h' : c + 1 ≤ 4503599627370496 := by omega
    have := Nat.mul_le_mul_right (2 ^ d) h'
    rw [Nat.add_mul, Nat.one_mul] at this
    omega
  have c2 : c ≤ 9007199254740992 := by
    refine Decidable.byContradiction fun h => ?_
    have h' : 9007199254740992 + 1 ≤ c := by omega
    have := Nat.mul_le_mul_right (2 ^ d) h'
    rw [Nat.add_mul, Nat.one_mul] at this
    omega
  rw [hw]
  have hL2 : L ≤ 1874 := by omega
  clear hw hc b1 b2 p1 p2
  have hle : L * 4503599627370496 + c ≤ 9218868437227405312 := by omega
  rw [Nat.min_eq_left hle]
  rcases Nat.lt_or_ge c 9007199254740992 with h | h
  · have hr := read_normal (k := c) (last := p + (d : Int)) c1 h (by omega) (by omega)
    rw [← hL] at hr
    refine ⟨c, c, 0, ?_, c1, h, ⟨by simp, by omega⟩, hcut.1, hcut.2⟩
    rw [hr]
    simp
  · have hcc : c = 9007199254740992 := by omega
    have hr := read_normal (k := 4503599627370496) (last := p + (d : Int) + 1) (by omega) (by omega) (by omega) (by omega)
    have e3 : (p + (d : Int) + 1 + 1074).toNat = L + 1 := by omega
    rw [e3] at hr
    have e4 : L * 4503599627370496 + c = (L + 1) * 4503599627370496 + 4503599627370496 := by omega
    rw [e4]
    refine ⟨c, 4503599627370496, 1, ?_, by omega, by omega, ⟨by omega, by omega⟩, hcut.1, hcut.2⟩
    rw [hr]
    rfl
/-- The root of a normal number, to 54 digits and one more. -/
theorem root_normal {k : Nat} {i : Int} (h1 : 4503599627370496 ≤ k) (h2 : k < 9007199254740992) : ∃ q W st : Nat, q ≤ 1 ∧ (i - 56 - q) % 2 = 0 ∧ st ≤ 1 ∧ (st = 0 ↔ W * W = k * 2 ^ (56 + q)) ∧ W * W ≤ k * 2 ^ (56 + q) ∧ k * 2 ^ (56 + q) < (W + 1) * (W + 1) ∧
    (Datum.number false k i).root 54 = some (.number false (2 * W + st) ((i - 56 - q) / 2 - 1)) := by
  obtain ⟨q, hq⟩ : ∃ q, q = ((i - 56) % 2).toNat := ⟨_, rfl⟩
  have hl : k.log2 = 52 := by
    have := log2_mul (t := 0) h1 h2
    rwa [Nat.pow_zero, Nat.mul_one] at this
  have hk : k ≠ 0 := by omega
  obtain ⟨n, hn⟩ : ∃ n, n = k * 2 ^ (56 + q) := ⟨_, rfl⟩
  obtain ⟨d1, d2⟩ := root_digits n
  obtain ⟨W, hW⟩ : ∃ W, W = Datum.rootFrom n (n.log2 / 2 + 1) 0 := ⟨_, rfl⟩
  rw [← hW] at d1 d2
  refine ⟨q, W, (W * W != n).toNat, by omega, by omega, by cases (W * W != n) <;> decide, ?_, by rw [← hn]; exact d1, by rw [← hn]; exact d2, ?_⟩
  · rw [← hn]
    cases hb : (W * W != n) with
    | true =>
      have : W * W ≠ n := by simpa using hb
      simp [this]
    | false =>
      have : W * W = n := by simpa using hb
      simp [this]
  · unfold Datum.root
    simp only [hk, Bool.false_eq_true, if_false, hl]
    have e1 : 2 * 54 - 52 = 56 := rfl
    rw [e1]
    have e2 : ((i - ((56 : Nat) : Int)) % 2).toNat = q := by rw [hq]; rfl
    rw [e2, Nat.shiftLeft_eq, ← hn, ← hW]
    have e3 : (i - ((56 + q : Nat) : Int)) = i - 56 - q := by omega
    rw [e3]
/-- The rounded root reaches X. -/
theorem root_reaches {n W st c X : Nat} (h1 : W * W ≤ n) (h2 : n < (W + 1) * (W + 1)) (h3 : st = 0 ↔ W * W = n) (hr : 2 * (2 * W + st) ≤ 2 * (c * 2 ^ 3) + 2 ^ 3) (hX : 2 ≤ X) (h4 : X % 4 = 0) (hn : (X - 2) * (X - 2) < n) : X ≤ 4 * c := by
  refine Decidable.byContradiction fun hc => ?_
  have e : (2 : Nat) ^ 3 = 8 := by decide
  rw [e] at hr
  have hW : W ≤ X - 2 := by omega
  rcases Nat.lt_or_ge W (X - 2) with h | h
  · have := Nat.mul_le_mul (show W + 1 ≤ X - 2 by omega) (show W + 1 ≤ X - 2 by omega)
    omega
  · obtain rfl : W = X - 2 := by omega
    have hs : st = 0 := by omega
    have := h3.1 hs
    omega
/-- The rounded root stays below Y. -/
theorem root_below {n W st c Y : Nat} (h1 : W * W ≤ n) (hst : st ≤ 1) (hr : 2 * (c * 2 ^ 3) ≤ 2 * (2 * W + st) + 2 ^ 3) (hY : 4 ≤ Y) (hn : n < (Y - 3) * (Y - 3)) : 4 * c < Y := by
  have e : (2 : Nat) ^ 3 = 8 := by decide
  rw [e] at hr
  have hW : W < Y - 3 := by
    refine Decidable.byContradiction fun h => ?_
    have := Nat.mul_le_mul (show Y - 3 ≤ W by omega) (show Y - 3 ≤ W by omega)
    omega
  omega
/-- A number with a fraction, cut to an integer. -/
theorem toInt_zero (k d : Nat) : (Datum.number false k (-(d : Int))).toInt .zero = some ((k / 2 ^ d : Nat) : Int) := by
  unfold Datum.toInt Datum.integral
  have e1 : (-(d : Int)).toNat = 0 := by omega
  have e2 : (- -(d : Int)).toNat = d := by omega
  simp only [e1, e2, Nat.shiftLeft_zero]
  have hc : Toward.zero.cut false k d = k / 2 ^ d := by
    unfold Toward.cut
    simp only [Bool.toNat_false, Nat.add_zero]
    rw [Nat.shiftLeft_eq, Nat.one_mul]
    rcases Nat.le_total d (k.log2 + 2) with h | h
    · rw [Nat.min_eq_left h]
    · rw [Nat.min_eq_right h]
      have b : k < 2 ^ (k.log2 + 1) := Nat.lt_log2_self
      have b1 : k < 2 ^ (k.log2 + 2) := Nat.lt_of_lt_of_le b (Nat.pow_le_pow_right (by decide) (by omega))
      have b2 : k < 2 ^ d := Nat.lt_of_lt_of_le b1 (Nat.pow_le_pow_right (by decide) h)
      rw [Nat.div_eq_of_lt b1, Nat.div_eq_of_lt b2]
  rw [hc]
  unfold signed
  simp
/-- The root of a float that is a normal number. -/
theorem sqrt_normal {x k : Nat} {i : Int} (hx : double.read x = .number false k i) (h1 : 4503599627370496 ≤ k) (h2 : k < 9007199254740992) (h3 : -800 ≤ i) (h4 : i ≤ 600) :
    ∃ r q W st c k' e : Nat, double.sqrt x = some r ∧ double.read r = .number false k' ((i - 56 - q) / 2 + 2 + e) ∧ (k' * 2 ^ e = c ∧ e ≤ 1) ∧ q ≤ 1 ∧ (i - 56 - q) % 2 = 0 ∧ st ≤ 1 ∧ (st = 0 ↔ W * W = k * 2 ^ (56 + q)) ∧ W * W ≤ k * 2 ^ (56 + q) ∧ k * 2 ^ (56 + q) < (W + 1) * (W + 1) ∧
      2 * (2 * W + st) ≤ 2 * (c * 2 ^ 3) + 2 ^ 3 ∧ 2 * (c * 2 ^ 3) ≤ 2 * (2 * W + st) + 2 ^ 3 := by
  obtain ⟨q, W, st, hq, hpar, hst, hst0, hW1, hW2, hroot⟩ := root_normal (i := i) h1 h2
  have q54 : (2 : Nat) ^ 54 = 18014398509481984 := by decide
  have q55 : (2 : Nat) ^ 55 = 36028797018963968 := by decide
  have lo : 18014398509481984 ≤ W := by
    refine Decidable.byContradiction fun h => ?_
    have a1 := Nat.mul_le_mul (show W + 1 ≤ 18014398509481984 by omega) (show W + 1 ≤ 18014398509481984 by omega)
    have a2 : 4503599627370496 * 2 ^ 56 ≤ k * 2 ^ (56 + q) := Nat.mul_le_mul h1 (Nat.pow_le_pow_right (by decide) (by omega))
    have a3 : (18014398509481984 * 18014398509481984 : Nat) = 4503599627370496 * 2 ^ 56 := by decide
    omega
  have hi : W < 36028797018963968 := by
    refine Decidable.byContradiction fun h => ?_
    have a1 := Nat.mul_le_mul (show 36028797018963968 ≤ W by omega) (show 36028797018963968 ≤ W by omega)
    have a2 : k * 2 ^ (56 + q) ≤ k * 2 ^ 57 := Nat.mul_le_mul_left k (Nat.pow_le_pow_right (by decide) (by omega))
    have a3 : (36028797018963968 * 36028797018963968 : Nat) = 9007199254740992 * 2 ^ 57 := by decide
    have a4 : k * 2 ^ 57 < 9007199254740992 * 2 ^ 57 := Nat.mul_lt_mul_of_pos_right h2 (by decide)
    omega
  have hl : (2 * W + st).log2 = 52 + 3 := by
    refine (Nat.log2_eq_iff (by omega)).2 ⟨?_, ?_⟩
    · rw [show 52 + 3 = 55 from rfl, q55]; omega
    · have q56 : (2 : Nat) ^ 56 = 72057594037927936 := by decide
      rw [show 52 + 3 + 1 = 56 from rfl, q56]; omega
  obtain ⟨c, k', e, hr, _, _, hk, hc1, hc2⟩ := near_place (n := 2 * W + st) (d := 3) (p := (i - 56 - q) / 2 - 1) hl (by omega) (by omega)
  refine ⟨double.nearest false (2 * W + st) ((i - 56 - q) / 2 - 1), q, W, st, c, k', e, ?_, ?_, hk, hq, hpar, hst, hst0, hW1, hW2, hc2, hc1⟩
  · have s5 : double.fractionBits + 2 = 54 := by decide
    unfold Format.sqrt
    rw [hx, s5, hroot]
    rfl
  · rw [hr]
    congr 1
    omega
/-- Times 65536. -/
theorem mul_scale {x k : Nat} {i : Int} (hx : double.read x = .number false k i) (h1 : 4503599627370496 ≤ k) (h2 : k < 9007199254740992) (h3 : -800 ≤ i) (h4 : i ≤ 600) :
    ∃ r : Nat, double.mul x 4679240012837945344 = some r ∧ double.read r = .number false k (i + 16) := by
  have hs : double.read 4679240012837945344 = .number false 4503599627370496 (-36) := by decide +kernel
  have q1 : (2 : Nat) ^ 52 = 4503599627370496 := by decide
  have hr := near_shift (t := 52) (p := i + -36) h1 h2 (by omega) (by omega)
  rw [q1] at hr
  refine ⟨double.nearest false (k * 4503599627370496) (i + -36), ?_, ?_⟩
  · unfold Format.mul
    rw [hx, hs]
    rfl
  · rw [hr]
    congr 1
    omega
/-- An integer as a float: a normal number, off by at most half a unit of the last place. -/
theorem near_int {n : Nat} (h0 : n ≠ 0) (hn : n < 4611686018427387904) : ∃ (k : Nat) (i : Int), double.read (double.nearest false n 0) = .number false k i ∧ 4503599627370496 ≤ k ∧ k < 9007199254740992 ∧ -52 ≤ i ∧ i ≤ 10 ∧
    ((i ≤ 0 ∧ k = n * 2 ^ (-i).toNat) ∨ (1 ≤ i ∧ 2 * (k * 2 ^ i.toNat) ≤ 2 * n + 2 ^ i.toNat ∧ 2 * n ≤ 2 * (k * 2 ^ i.toNat) + 2 ^ i.toNat)) := by
  have q62 : (2 : Nat) ^ 62 = 4611686018427387904 := by decide
  have hl : n.log2 < 62 := (Nat.log2_lt h0).2 (by omega)
  obtain ⟨b1, b2⟩ := log2_bounds h0
  rcases Nat.lt_or_ge 52 n.log2 with h | h
  · obtain ⟨d, hd⟩ : ∃ d, n.log2 = 52 + d := ⟨n.log2 - 52, by omega⟩
    obtain ⟨k, e, hr, k1, k2, c1, c2, he⟩ := near_round hd (by omega) (by omega)
    have hE : 2 ^ d ≤ 2 ^ e := Nat.pow_le_pow_right (by decide) (by omega)
    refine ⟨k, (e : Int), hr, k1, k2, by omega, by omega, .inr ⟨by omega, ?_, ?_⟩⟩
    · rw [Int.toNat_natCast]; omega
    · rw [Int.toNat_natCast]; omega
  · have hr := near_exact (m := n) (p := 0) h0 h (by omega) (by omega)
    have q1 : (2 : Nat) ^ 52 = 4503599627370496 := by decide
    have q2 : (2 : Nat) ^ 53 = 9007199254740992 := by decide
    have hG : 0 < 2 ^ (52 - n.log2) := Nat.pow_pos (by decide)
    refine ⟨n * 2 ^ (52 - n.log2), 0 + (n.log2 : Int) - 52, hr, ?_, ?_, by omega, by omega, .inl ⟨by omega, ?_⟩⟩
    · rw [← q1, show 52 = n.log2 + (52 - n.log2) by omega, Nat.pow_add, show n.log2 + (52 - n.log2) = 52 by omega]
      exact Nat.mul_le_mul_right _ b1
    · rw [← q2, show 53 = n.log2 + 1 + (52 - n.log2) by omega, Nat.pow_add]
      exact Nat.mul_lt_mul_of_pos_right b2 hG
    · have : (-(0 + (n.log2 : Int) - 52)).toNat = 52 - n.log2 := by omega
      rw [this]
theorem between_squares {N n s D h L : Nat} (hn1 : (N - h) * (D * D) ≤ n) (hn2 : n ≤ (N + h) * (D * D)) (h1 : s * s ≤ N) (h2 : N < (s + 1) * (s + 1)) (hL : L ≤ s) (hlin : h * (D * D) + 4 < 4 * (L * D)) (hD : 4 ≤ D) (hh : h * D ≤ 2 * (L * (D - 3))) :
    (s * D - 2) * (s * D - 2) < n ∧ n < ((s + 2) * D - 3) * ((s + 2) * D - 3) := by
  have hLs : L * D ≤ s * D := Nat.mul_le_mul_right D hL
  constructor
  · obtain ⟨X, hX⟩ : ∃ X, X = s * D := ⟨_, rfl⟩
    rw [← hX] at hLs ⊢
    have hXX : X * X = s * s * (D * D) := by rw [hX]; grind
    have a1 : s * s * (D * D) ≤ N * (D * D) := Nat.mul_le_mul_right _ h1
    rw [Nat.sub_mul] at hn1
    obtain ⟨Y, hY⟩ : ∃ Y, X = Y + 2 := ⟨X - 2, by omega⟩
    have e1 : X * X + 4 = Y * Y + 4 * X := by rw [hY]; grind
    have e2 : X - 2 = Y := by omega
    rw [e2]
    omega
  · obtain ⟨Z, hZ⟩ : ∃ Z, Z = (s + 1) * D := ⟨_, rfl⟩
    obtain ⟨F, hF⟩ : ∃ F, D = F + 3 := ⟨D - 3, by omega⟩
    have e1 : (s + 2) * D - 3 = Z + F := by
      have : (s + 2) * D = Z + D := by rw [hZ]; grind
      omega
    rw [e1]
    have e2 : (Z + F) * (Z + F) = Z * Z + 2 * (Z * F) + F * F := by grind
    rw [e2]
    have hZZ : Z * Z = (s + 1) * (s + 1) * (D * D) := by rw [hZ]; grind
    have a1 : (N + 1) * (D * D) ≤ (s + 1) * (s + 1) * (D * D) := Nat.mul_le_mul_right _ h2
    rw [Nat.add_mul, Nat.one_mul] at a1
    rw [Nat.add_mul] at hn2
    have hDD : 0 < D * D := Nat.mul_pos (by omega) (by omega)
    have a2 : h * D ≤ 2 * (s * F) := by
      have : D - 3 = F := by omega
      rw [this] at hh
      have := Nat.mul_le_mul_right F hL
      omega
    have a3 : h * D * D ≤ 2 * (s * F) * D := Nat.mul_le_mul_right D a2
    have a4 : h * D * D = h * (D * D) := by grind
    have a5 : 2 * (s * F) * D ≤ 2 * (Z * F) := by
      have : 2 * (Z * F) = 2 * (s * F) * D + 2 * (F * D) := by rw [hZ]; grind
      omega
    omega
theorem squares_rounded {n s k j q : Nat} {i : Int} (k1 : 4503599627370496 ≤ k) (hi : 1 ≤ i) (hi2 : i ≤ 10) (hq : q ≤ 1) (hj : (2 * j : Int) = 40 + q - i) (hc1 : 2 * (k * 2 ^ i.toNat) ≤ 2 * n + 2 ^ i.toNat) (hc2 : 2 * n ≤ 2 * (k * 2 ^ i.toNat) + 2 ^ i.toNat) (h1 : s * s ≤ n * 65536) (h2 : n * 65536 < (s + 1) * (s + 1)) :
    (s * 2 ^ j - 2) * (s * 2 ^ j - 2) < k * 2 ^ (56 + q) ∧ k * 2 ^ (56 + q) < ((s + 2) * 2 ^ j - 3) * ((s + 2) * 2 ^ j - 3) := by
  have hcs : i = 1 ∨ i = 2 ∨ i = 3 ∨ i = 4 ∨ i = 5 ∨ i = 6 ∨ i = 7 ∨ i = 8 ∨ i = 9 ∨ i = 10 := by omega
  rcases hcs with rfl | rfl | rfl | rfl | rfl | rfl | rfl | rfl | rfl | rfl
  · obtain rfl : q = 1 := by omega
    obtain rfl : j = 20 := by omega
    have g1 : (2 : Nat) ^ 20 = 1048576 := by decide
    have g2 : (2 : Nat) ^ (56 + 1) = 144115188075855872 := by decide
    have g3 : (2 : Nat) ^ ((1 : Int).toNat) = 2 := by decide
    rw [g1, g2]
    rw [g3] at hc1 hc2
    have hL : 24296003998 ≤ s := by
      refine Decidable.byContradiction fun h => ?_
      have := Nat.mul_le_mul (show s + 1 ≤ 24296003998 by omega) (show s + 1 ≤ 24296003998 by omega)
      omega
    exact between_squares (L := 24296003998) (h := 65536) (by omega) (by omega) h1 h2 hL (by decide) (by decide) (by decide)
  · obtain rfl : q = 0 := by omega
    obtain rfl : j = 19 := by omega
    have g1 : (2 : Nat) ^ 19 = 524288 := by decide
    have g2 : (2 : Nat) ^ (56 + 0) = 72057594037927936 := by decide
    have g3 : (2 : Nat) ^ ((2 : Int).toNat) = 4 := by decide
    rw [g1, g2]
    rw [g3] at hc1 hc2
    have hL : 34359738366 ≤ s := by
      refine Decidable.byContradiction fun h => ?_
      have := Nat.mul_le_mul (show s + 1 ≤ 34359738366 by omega) (show s + 1 ≤ 34359738366 by omega)
      omega
    exact between_squares (L := 34359738366) (h := 131072) (by omega) (by omega) h1 h2 hL (by decide) (by decide) (by decide)
  · obtain rfl : q = 1 := by omega
    obtain rfl : j = 19 := by omega
    have g1 : (2 : Nat) ^ 19 = 524288 := by decide
    have g2 : (2 : Nat) ^ (56 + 1) = 144115188075855872 := by decide
    have g3 : (2 : Nat) ^ ((3 : Int).toNat) = 8 := by decide
    rw [g1, g2]
    rw [g3] at hc1 hc2
    have hL : 48592007998 ≤ s := by
      refine Decidable.byContradiction fun h => ?_
      have := Nat.mul_le_mul (show s + 1 ≤ 48592007998 by omega) (show s + 1 ≤ 48592007998 by omega)
      omega
    exact between_squares (L := 48592007998) (h := 262144) (by omega) (by omega) h1 h2 hL (by decide) (by decide) (by decide)
  · obtain rfl : q = 0 := by omega
    obtain rfl : j = 18 := by omega
    have g1 : (2 : Nat) ^ 18 = 262144 := by decide
    have g2 : (2 : Nat) ^ (56 + 0) = 72057594037927936 := by decide
    have g3 : (2 : Nat) ^ ((4 : Int).toNat) = 16 := by decide
    rw [g1, g2]
    rw [g3] at hc1 hc2
    have hL : 68719476734 ≤ s := by
      refine Decidable.byContradiction fun h => ?_
      have := Nat.mul_le_mul (show s + 1 ≤ 68719476734 by omega) (show s + 1 ≤ 68719476734 by omega)
      omega
    exact between_squares (L := 68719476734) (h := 524288) (by omega) (by omega) h1 h2 hL (by decide) (by decide) (by decide)
  · obtain rfl : q = 1 := by omega
    obtain rfl : j = 18 := by omega
    have g1 : (2 : Nat) ^ 18 = 262144 := by decide
    have g2 : (2 : Nat) ^ (56 + 1) = 144115188075855872 := by decide
    have g3 : (2 : Nat) ^ ((5 : Int).toNat) = 32 := by decide
    rw [g1, g2]
    rw [g3] at hc1 hc2
    have hL : 97184015998 ≤ s := by
      refine Decidable.byContradiction fun h => ?_
      have := Nat.mul_le_mul (show s + 1 ≤ 97184015998 by omega) (show s + 1 ≤ 97184015998 by omega)
      omega
    exact between_squares (L := 97184015998) (h := 1048576) (by omega) (by omega) h1 h2 hL (by decide) (by decide) (by decide)
  · obtain rfl : q = 0 := by omega
    obtain rfl : j = 17 := by omega
    have g1 : (2 : Nat) ^ 17 = 131072 := by decide
    have g2 : (2 : Nat) ^ (56 + 0) = 72057594037927936 := by decide
    have g3 : (2 : Nat) ^ ((6 : Int).toNat) = 64 := by decide
    rw [g1, g2]
    rw [g3] at hc1 hc2
    have hL : 137438953470 ≤ s := by
      refine Decidable.byContradiction fun h => ?_
      have := Nat.mul_le_mul (show s + 1 ≤ 137438953470 by omega) (show s + 1 ≤ 137438953470 by omega)
      omega
    exact between_squares (L := 137438953470) (h := 2097152) (by omega) (by omega) h1 h2 hL (by decide) (by decide) (by decide)
  · obtain rfl : q = 1 := by omega
    obtain rfl : j = 17 := by omega
    have g1 : (2 : Nat) ^ 17 = 131072 := by decide
    have g2 : (2 : Nat) ^ (56 + 1) = 144115188075855872 := by decide
    have g3 : (2 : Nat) ^ ((7 : Int).toNat) = 128 := by decide
    rw [g1, g2]
    rw [g3] at hc1 hc2
    have hL : 194368031997 ≤ s := by
      refine Decidable.byContradiction fun h => ?_
      have := Nat.mul_le_mul (show s + 1 ≤ 194368031997 by omega) (show s + 1 ≤ 194368031997 by omega)
      omega
    exact between_squares (L := 194368031997) (h := 4194304) (by omega) (by omega) h1 h2 hL (by decide) (by decide) (by decide)
  · obtain rfl : q = 0 := by omega
    obtain rfl : j = 16 := by omega
    have g1 : (2 : Nat) ^ 16 = 65536 := by decide
    have g2 : (2 : Nat) ^ (56 + 0) = 72057594037927936 := by decide
    have g3 : (2 : Nat) ^ ((8 : Int).toNat) = 256 := by decide
    rw [g1, g2]
    rw [g3] at hc1 hc2
    have hL : 274877906942 ≤ s := by
      refine Decidable.byContradiction fun h => ?_
      have := Nat.mul_le_mul (show s + 1 ≤ 274877906942 by omega) (show s + 1 ≤ 274877906942 by omega)
      omega
    exact between_squares (L := 274877906942) (h := 8388608) (by omega) (by omega) h1 h2 hL (by decide) (by decide) (by decide)
  · obtain rfl : q = 1 := by omega
    obtain rfl : j = 16 := by omega
    have g1 : (2 : Nat) ^ 16 = 65536 := by decide
    have g2 : (2 : Nat) ^ (56 + 1) = 144115188075855872 := by decide
    have g3 : (2 : Nat) ^ ((9 : Int).toNat) = 512 := by decide
    rw [g1, g2]
    rw [g3] at hc1 hc2
    have hL : 388736063995 ≤ s := by
      refine Decidable.byContradiction fun h => ?_
      have := Nat.mul_le_mul (show s + 1 ≤ 388736063995 by omega) (show s + 1 ≤ 388736063995 by omega)
      omega
    exact between_squares (L := 388736063995) (h := 16777216) (by omega) (by omega) h1 h2 hL (by decide) (by decide) (by decide)
  · obtain rfl : q = 0 := by omega
    obtain rfl : j = 15 := by omega
    have g1 : (2 : Nat) ^ 15 = 32768 := by decide
    have g2 : (2 : Nat) ^ (56 + 0) = 72057594037927936 := by decide
    have g3 : (2 : Nat) ^ ((10 : Int).toNat) = 1024 := by decide
    rw [g1, g2]
    rw [g3] at hc1 hc2
    have hL : 549755813886 ≤ s := by
      refine Decidable.byContradiction fun h => ?_
      have := Nat.mul_le_mul (show s + 1 ≤ 549755813886 by omega) (show s + 1 ≤ 549755813886 by omega)
      omega
    exact between_squares (L := 549755813886) (h := 33554432) (by omega) (by omega) h1 h2 hL (by decide) (by decide) (by decide)
theorem squares_exact {n s k j q : Nat} {i : Int} (hi : i ≤ 0) (hj : (2 * j : Int) = 40 + q - i) (hk : k = n * 2 ^ (-i).toNat) (h0 : 1 ≤ s) (h1 : s * s ≤ n * 65536) (h2 : n * 65536 < (s + 1) * (s + 1)) :
    (s * 2 ^ j - 2) * (s * 2 ^ j - 2) < k * 2 ^ (56 + q) ∧ k * 2 ^ (56 + q) < ((s + 2) * 2 ^ j - 3) * ((s + 2) * 2 ^ j - 3) := by
  have e : k * 2 ^ (56 + q) = n * 65536 * (2 ^ j * 2 ^ j) := by
    have g : (65536 : Nat) = 2 ^ 16 := by decide
    rw [hk, g, Nat.mul_assoc, Nat.mul_assoc, ← Nat.pow_add, ← Nat.pow_add, ← Nat.pow_add]
    congr 2
    omega
  rw [e]
  have hD : 4 ≤ 2 ^ j := by
    have : (4 : Nat) = 2 ^ 2 := by decide
    rw [this]
    exact Nat.pow_le_pow_right (by decide) (by omega)
  generalize 2 ^ j = D at *
  exact between_squares (L := 1) (h := 0) (by rw [Nat.sub_zero]; exact Nat.le_refl _) (by rw [Nat.add_zero]; exact Nat.le_refl _) h1 h2 h0 (by omega) hD (by omega)
/-- The square root with floats: rounded down, or greater by 1. -/
theorem float_sqrt {n s : Nat} (h0 : n ≠ 0) (hn : n < 4611686018427387904) (h1 : s * s ≤ n * 65536) (h2 : n * 65536 < (s + 1) * (s + 1)) :
    ∃ x r t : Nat, double.mul (double.nearest false n 0) 4679240012837945344 = some x ∧ double.sqrt x = some r ∧ (double.read r).toInt .zero = some (t : Int) ∧ (t = s ∨ t = s + 1) := by
  obtain ⟨k, i, hr, k1, k2, i1, i2, hcase⟩ := near_int h0 hn
  obtain ⟨x, hx, hxr⟩ := mul_scale hr k1 k2 (by omega) (by omega)
  obtain ⟨r, q, W, st, c, k', e, hsq, hrr, ⟨hk, he⟩, hq1, hpar, hst, hst0, hW1, hW2, hc1, hc2⟩ := sqrt_normal hxr k1 k2 (by omega) (by omega)
  obtain ⟨j, hj1, hj2⟩ : ∃ j : Nat, (i + 16 - 56 - q) / 2 = -(j : Int) ∧ (2 * j : Int) = 40 + q - i := ⟨((40 + q - i) / 2).toNat, by omega, by omega⟩
  have hj : 15 ≤ j := by omega
  have hs1 : 1 ≤ s := by
    refine Decidable.byContradiction fun h => ?_
    obtain rfl : s = 0 := by omega
    omega
  have key : (s * 2 ^ j - 2) * (s * 2 ^ j - 2) < k * 2 ^ (56 + q) ∧ k * 2 ^ (56 + q) < ((s + 2) * 2 ^ j - 3) * ((s + 2) * 2 ^ j - 3) := by
    rcases hcase with ⟨a1, a2⟩ | ⟨a1, a2, a3⟩
    · exact squares_exact a1 hj2 a2 hs1 h1 h2
    · exact squares_rounded k1 a1 i2 hq1 hj2 a2 a3 h1 h2
  have hD : (2 : Nat) ^ j = 2 ^ (j - 2) * 4 := by
    have : (4 : Nat) = 2 ^ 2 := by decide
    rw [this, ← Nat.pow_add, show j - 2 + 2 = j by omega]
  have hP : 0 < 2 ^ (j - 2) := Nat.pow_pos (by decide)
  have t1 : s * 2 ^ j ≤ 4 * c := by
    refine root_reaches hW1 hW2 hst0 hc1 ?_ ?_ key.1
    · rw [hD]
      have := Nat.mul_le_mul hs1 (show 4 ≤ 2 ^ (j - 2) * 4 by omega)
      omega
    · rw [hD, ← Nat.mul_assoc]
      omega
  have t2 : 4 * c < (s + 2) * 2 ^ j := by
    refine root_below hW1 hst hc2 ?_ key.2
    rw [hD]
    have := Nat.mul_le_mul (show 1 ≤ s + 2 by omega) (show 4 ≤ 2 ^ (j - 2) * 4 by omega)
    omega
  have hpl : (i + 16 - 56 - q) / 2 + 2 + (e : Int) = -((j - 2 - e : Nat) : Int) := by omega
  rw [hpl] at hrr
  have hval : k' / 2 ^ (j - 2 - e) = 4 * c / 2 ^ j := by
    have e1 : 4 * c = k' * (2 ^ e * 4) := by rw [← hk, Nat.mul_comm, Nat.mul_assoc]
    have e2 : (2 : Nat) ^ j = 2 ^ (j - 2 - e) * (2 ^ e * 4) := by
      rw [hD, ← Nat.mul_assoc, ← Nat.pow_add, show j - 2 - e + e = j - 2 by omega]
    rw [e1, e2, Nat.mul_div_mul_right _ _ (Nat.mul_pos (Nat.pow_pos (by decide)) (by decide))]
  refine ⟨x, r, 4 * c / 2 ^ j, hx, hsq, ?_, ?_⟩
  · rw [hrr, toInt_zero, hval]
  · have hDp : 0 < 2 ^ j := Nat.pow_pos (by decide)
    have b1 : s ≤ 4 * c / 2 ^ j := (Nat.le_div_iff_mul_le hDp).2 t1
    have b2 : 4 * c / 2 ^ j < s + 2 := (Nat.div_lt_iff_lt_mul hDp).2 t2
    omega
end Go.Proofs.Ytdleiiboffkidaa
end

/- ---- Seqa ---- -/
section
/-
  Sequences of rational numbers, and the signs of what they approach: square roots without real numbers.
-/
set_option maxRecDepth 100000
namespace Go.Proofs.Ytdleiiboffkidaa
/-- Sequences of rational numbers, and the signs of what they approach. -/
abbrev Sq := Nat → Rat
def Null (f : Sq) : Prop := ∀ e : Rat, 0 < e → ∃ K, ∀ k, K ≤ k → -e ≤ f k ∧ f k ≤ e
def PosS (f : Sq) : Prop := ∃ e : Rat, 0 < e ∧ ∃ K, ∀ k, K ≤ k → e ≤ f k
def Bdd (f : Sq) : Prop := ∃ b : Rat, 0 < b ∧ ∀ k, -b ≤ f k ∧ f k ≤ b
def HasSg (f : Sq) (s : Int) : Prop := (s = 1 ∧ PosS f) ∨ (s = 0 ∧ Null f) ∨ (s = -1 ∧ PosS fun k => - f k)
theorem le_tot (a b : Rat) : a ≤ b ∨ b ≤ a := Rat.le_total
theorem mul_le {a b x y : Rat} (ha : 0 ≤ a) (hx : a ≤ x) (hb : 0 ≤ b) (hy : b ≤ y) : a * b ≤ x * y := by
  have h1 : 0 ≤ (x - a) * y := Rat.mul_nonneg (by grind) (by grind)
  have h2 : 0 ≤ a * (y - b) := Rat.mul_nonneg ha (by grind)
  grind
theorem half_pos {e : Rat} (h : 0 < e) : 0 < e / 2 := by grind
theorem null_congr {f g : Sq} (h : ∀ k, f k = g k) (n : Null f) : Null g := by
  obtain rfl : f = g := funext h
  exact n
theorem pos_congr {f g : Sq} (h : ∀ k, f k = g k) (n : PosS f) : PosS g := by
  obtain rfl : f = g := funext h
  exact n
theorem HasSg.of_eq {f g : Sq} {s : Int} (n : HasSg f s) (h : ∀ k, f k = g k) : HasSg g s := by
  obtain rfl : f = g := funext h
  exact n
theorem null_add {f g : Sq} (h : Null f) (k : Null g) : Null fun n => f n + g n := by
  intro e he
  obtain ⟨K, hK⟩ := h (e / 2) (half_pos he)
  obtain ⟨L, hL⟩ := k (e / 2) (half_pos he)
  refine ⟨max K L, fun n hn => ?_⟩
  have := hK n (by omega)
  have := hL n (by omega)
  grind
theorem null_neg {f : Sq} (h : Null f) : Null fun n => - f n := by
  intro e he
  obtain ⟨K, hK⟩ := h e he
  exact ⟨K, fun n hn => by have := hK n hn; grind⟩
theorem abs_mul_le {b e x y : Rat} (_ : 0 < b) (_ : 0 < e) (h1 : -b ≤ x) (h2 : x ≤ b) (h3 : -e ≤ y) (h4 : y ≤ e) : -(b * e) ≤ x * y ∧ x * y ≤ b * e := by
  have k1 : 0 ≤ (b - x) * (e + y) := Rat.mul_nonneg (by grind) (by grind)
  have k2 : 0 ≤ (b + x) * (e - y) := Rat.mul_nonneg (by grind) (by grind)
  have k3 : 0 ≤ (b - x) * (e - y) := Rat.mul_nonneg (by grind) (by grind)
  have k4 : 0 ≤ (b + x) * (e + y) := Rat.mul_nonneg (by grind) (by grind)
  grind
theorem div_pos' {e b : Rat} (he : 0 < e) (hb : 0 < b) : 0 < e / b := by
  rw [Rat.div_def]
  exact Rat.mul_pos he (Rat.inv_pos.2 hb)
theorem mul_div' {e b : Rat} (hb : 0 < b) : b * (e / b) = e := by
  have : b ≠ 0 := by grind
  grind
theorem null_mul {f g : Sq} (h : Bdd f) (k : Null g) : Null fun n => f n * g n := by
  intro e he
  obtain ⟨b, hb, hf⟩ := h
  obtain ⟨K, hK⟩ := k (e / b) (div_pos' he hb)
  refine ⟨K, fun n hn => ?_⟩
  have h1 := hK n hn
  have h2 := hf n
  have := abs_mul_le hb (div_pos' he hb) h2.1 h2.2 h1.1 h1.2
  rw [mul_div' hb] at this
  exact this
theorem null_zero : Null fun _ => 0 := fun e he => ⟨0, fun n _ => by grind⟩
theorem bdd_const (c : Rat) : Bdd fun _ => c := by
  rcases le_tot 0 c with h | h
  · exact ⟨c + 1, by grind, fun k => by grind⟩
  · exact ⟨1 - c, by grind, fun k => by grind⟩
theorem bdd_add {f g : Sq} (h : Bdd f) (k : Bdd g) : Bdd fun n => f n + g n := by
  obtain ⟨b, hb, h⟩ := h
  obtain ⟨c, hc, k⟩ := k
  exact ⟨b + c, by grind, fun n => by have := h n; have := k n; grind⟩
theorem bdd_neg {f : Sq} (h : Bdd f) : Bdd fun n => - f n := by
  obtain ⟨b, hb, h⟩ := h
  exact ⟨b, hb, fun n => by have := h n; grind⟩
theorem bdd_mul {f g : Sq} (h : Bdd f) (k : Bdd g) : Bdd fun n => f n * g n := by
  obtain ⟨b, hb, h⟩ := h
  obtain ⟨c, hc, k⟩ := k
  exact ⟨b * c, Rat.mul_pos hb hc, fun n => abs_mul_le hb hc (h n).1 (h n).2 (k n).1 (k n).2⟩
theorem bdd_congr {f g : Sq} (h : ∀ k, f k = g k) (n : Bdd f) : Bdd g := by
  obtain rfl : f = g := funext h
  exact n
theorem bdd_sub {f g : Sq} (h : Bdd f) (k : Bdd g) : Bdd fun n => f n - g n := bdd_congr (fun n => by grind) (bdd_add h (bdd_neg k))
theorem pos_add_null {f g : Sq} (h : PosS f) (k : Null g) : PosS fun n => f n + g n := by
  obtain ⟨e, he, K, hK⟩ := h
  obtain ⟨L, hL⟩ := k (e / 2) (half_pos he)
  refine ⟨e / 2, half_pos he, max K L, fun n hn => ?_⟩
  have := hK n (by omega)
  have := hL n (by omega)
  grind
theorem pos_add {f g : Sq} (h : PosS f) (k : PosS g) : PosS fun n => f n + g n := by
  obtain ⟨e, he, K, hK⟩ := h
  obtain ⟨e', he', L, hL⟩ := k
  refine ⟨e + e', by grind, max K L, fun n hn => ?_⟩
  have := hK n (by omega)
  have := hL n (by omega)
  grind
theorem pos_mul {f g : Sq} (h : PosS f) (k : PosS g) : PosS fun n => f n * g n := by
  obtain ⟨e, he, K, hK⟩ := h
  obtain ⟨e', he', L, hL⟩ := k
  refine ⟨e * e', Rat.mul_pos he he', max K L, fun n hn => ?_⟩
  exact mul_le (by grind) (hK n (by omega)) (by grind) (hL n (by omega))
theorem not_pos_null {f : Sq} (h : PosS f) (k : Null f) : False := by
  obtain ⟨e, he, K, hK⟩ := h
  obtain ⟨L, hL⟩ := k (e / 2) (half_pos he)
  have := hK (max K L) (by omega)
  have := hL (max K L) (by omega)
  grind
theorem not_pos_neg {f : Sq} (h : PosS f) (k : PosS fun n => - f n) : False := by
  obtain ⟨e, he, K, hK⟩ := h
  obtain ⟨e', he', L, hL⟩ := k
  have := hK (max K L) (by omega)
  have := hL (max K L) (by omega)
  grind
theorem not_negp_null {f : Sq} (h : PosS fun n => - f n) (k : Null f) : False := not_pos_null h (null_neg k)
theorem HasSg.unique {f : Sq} {s t : Int} (h : HasSg f s) (k : HasSg f t) : s = t := by
  rcases h with ⟨rfl, h⟩ | ⟨rfl, h⟩ | ⟨rfl, h⟩ <;> rcases k with ⟨rfl, k⟩ | ⟨rfl, k⟩ | ⟨rfl, k⟩ <;> first | rfl | exact (not_pos_null h k).elim | exact (not_pos_null k h).elim | exact (not_pos_neg h k).elim | exact (not_pos_neg k h).elim | exact (not_negp_null h k).elim | exact (not_negp_null k h).elim
theorem HasSg.neg {f : Sq} {s : Int} (h : HasSg f s) : HasSg (fun n => - f n) (-s) := by
  rcases h with ⟨rfl, h⟩ | ⟨rfl, h⟩ | ⟨rfl, h⟩
  · exact .inr (.inr ⟨rfl, pos_congr (fun k => by grind) h⟩)
  · exact .inr (.inl ⟨rfl, null_neg h⟩)
  · exact .inl ⟨rfl, h⟩
theorem HasSg.add_null {f g : Sq} {s : Int} (h : HasSg f s) (k : Null g) : HasSg (fun n => f n + g n) s := by
  rcases h with ⟨rfl, h⟩ | ⟨rfl, h⟩ | ⟨rfl, h⟩
  · exact .inl ⟨rfl, pos_add_null h k⟩
  · exact .inr (.inl ⟨rfl, null_add h k⟩)
  · exact .inr (.inr ⟨rfl, pos_congr (fun n => by grind) (pos_add_null h (null_neg k))⟩)
theorem HasSg.near {f g : Sq} {s : Int} (h : HasSg f s) (k : Null fun n => g n - f n) : HasSg g s := (h.add_null k).of_eq fun n => by grind
theorem HasSg.range {f : Sq} {s : Int} (h : HasSg f s) : s = 1 ∨ s = 0 ∨ s = -1 := by
  rcases h with ⟨rfl, h⟩ | ⟨rfl, h⟩ | ⟨rfl, h⟩ <;> simp
theorem HasSg.mul {f g : Sq} {s t : Int} (h : HasSg f s) (k : HasSg g t) (bf : Bdd f) (bg : Bdd g) : HasSg (fun n => f n * g n) (s * t) := by
  rcases h with ⟨rfl, h⟩ | ⟨rfl, h⟩ | ⟨rfl, h⟩
  · rcases k with ⟨rfl, k⟩ | ⟨rfl, k⟩ | ⟨rfl, k⟩
    · exact .inl ⟨rfl, pos_mul h k⟩
    · exact .inr (.inl ⟨rfl, null_mul bf k⟩)
    · exact .inr (.inr ⟨rfl, pos_congr (fun n => by grind) (pos_mul h k)⟩)
  · exact .inr (.inl ⟨by omega, null_congr (fun n => by grind) (null_mul bg h)⟩)
  · rcases k with ⟨rfl, k⟩ | ⟨rfl, k⟩ | ⟨rfl, k⟩
    · exact .inr (.inr ⟨rfl, pos_congr (fun n => by grind) (pos_mul h k)⟩)
    · exact .inr (.inl ⟨rfl, null_mul bf k⟩)
    · exact .inl ⟨rfl, pos_congr (fun n => by grind) (pos_mul h k)⟩
theorem pos_cancel {u v : Sq} (bu : Bdd u) (hu : PosS u) (h : PosS fun n => u n * v n) : PosS v := by
  obtain ⟨b, hb, hB⟩ := bu
  obtain ⟨e, he, K, hK⟩ := hu
  obtain ⟨e', he', L, hL⟩ := h
  refine ⟨e' / b, div_pos' he' hb, max K L, fun n hn => ?_⟩
  have h1 := hK n (by omega)
  have h2 : e' ≤ u n * v n := hL n (by omega)
  have h3 := hB n
  rcases le_tot (e' / b) (v n) with h | h
  · exact h
  · -- v n ≤ e'/b; u v ≥ e'
    have hv : 0 < v n := by
      rcases le_tot (v n) 0 with q | q
      · have : 0 ≤ u n * (- v n) := Rat.mul_nonneg (by grind) (by grind)
        grind
      · by_cases q0 : v n = 0
        · rw [q0] at h2; grind
        · grind
    have h5 : 0 ≤ (b - u n) * v n := Rat.mul_nonneg (by grind) (by grind)
    have h6 : b * (e' / b) = e' := mul_div' hb
    have h7 : 0 ≤ b * v n - b * (e' / b) := by grind
    by_cases q : v n = e' / b
    · grind
    · have : 0 < b * (e' / b - v n) := Rat.mul_pos hb (by grind)
      grind
theorem null_cancel {u v : Sq} (hu : PosS u) (h : Null fun n => u n * v n) : Null v := by
  obtain ⟨e, he, K, hK⟩ := hu
  intro d hd
  obtain ⟨L, hL⟩ := h (e * d) (Rat.mul_pos he hd)
  refine ⟨max K L, fun n hn => ?_⟩
  have h1 := hK n (by omega)
  have h2 := hL n (by omega)
  constructor
  · rcases le_tot (-d) (v n) with q | q
    · exact q
    · by_cases q0 : v n = -d
      · grind
      · have k1 : 0 < e * (-d - v n) := Rat.mul_pos he (by grind)
        have k2 : 0 ≤ (u n - e) * (- v n) := Rat.mul_nonneg (by grind) (by grind)
        grind
  · rcases le_tot (v n) d with q | q
    · exact q
    · by_cases q0 : v n = d
      · grind
      · have k1 : 0 < e * (v n - d) := Rat.mul_pos he (by grind)
        have k2 : 0 ≤ (u n - e) * (v n) := Rat.mul_nonneg (by grind) (by grind)
        grind
theorem HasSg.cancel {u v : Sq} {s : Int} (bu : Bdd u) (hu : PosS u) (h : HasSg (fun n => u n * v n) s) : HasSg v s := by
  rcases h with ⟨rfl, h⟩ | ⟨rfl, h⟩ | ⟨rfl, h⟩
  · exact .inl ⟨rfl, pos_cancel bu hu h⟩
  · exact .inr (.inl ⟨rfl, null_cancel hu h⟩)
  · exact .inr (.inr ⟨rfl, pos_cancel bu hu (pos_congr (fun n => by grind) h)⟩)
/-- The sign of a sum. -/
def sumSg (s t d : Int) : Int := if s = 0 then t else if t = 0 then s else if s = t then s else s * d
theorem HasSg.sum {f g : Sq} {s t d : Int} (h : HasSg f s) (k : HasSg g t) (bf : Bdd f) (bg : Bdd g) (hd : HasSg (fun n => f n * f n - g n * g n) d) : HasSg (fun n => f n + g n) (sumSg s t d) := by
  unfold sumSg
  rcases h with ⟨rfl, h⟩ | ⟨rfl, h⟩ | ⟨rfl, h⟩
  · rcases k with ⟨rfl, k⟩ | ⟨rfl, k⟩ | ⟨rfl, k⟩
    · exact .inl ⟨rfl, pos_add h k⟩
    · exact .inl ⟨rfl, pos_add_null h k⟩
    · rw [if_neg (by decide), if_neg (by decide), if_neg (by decide), Int.one_mul]
      refine HasSg.cancel (u := fun n => f n - g n) (bdd_sub bf bg) (pos_congr (fun n => by grind) (pos_add h k)) (hd.of_eq fun n => by grind)
  · rw [if_pos rfl]
    exact (k.add_null h).of_eq fun n => by grind
  · rcases k with ⟨rfl, k⟩ | ⟨rfl, k⟩ | ⟨rfl, k⟩
    · rw [if_neg (by decide), if_neg (by decide), if_neg (by decide)]
      have := HasSg.cancel (u := fun n => g n - f n) (v := fun n => f n + g n) (s := -d) (bdd_sub bg bf) (pos_congr (fun n => by grind) (pos_add h k)) (hd.neg.of_eq fun n => by grind)
      rw [show -1 * d = -d by omega]
      exact this
    · exact .inr (.inr ⟨rfl, pos_congr (fun n => by grind) (pos_add_null h (null_neg k))⟩)
    · exact .inr (.inr ⟨rfl, pos_congr (fun n => by grind) (pos_add h k)⟩)
/-- Rational numbers. -/
def sgQ' (a : Rat) : Int := if 0 < a then 1 else if a = 0 then 0 else -1
theorem hasSg_const (a : Rat) : HasSg (fun _ => a) (sgQ' a) := by
  unfold sgQ'
  split
  · rename_i h; exact .inl ⟨rfl, a, h, 0, fun _ _ => by grind⟩
  · split
    · rename_i h; subst h; exact .inr (.inl ⟨rfl, null_zero⟩)
    · exact .inr (.inr ⟨rfl, -a, by grind, 0, fun _ _ => by grind⟩)
/-- A sequence that approaches the square root of c from below, with all units of 1 / 65536 met. -/
structure IsRt (c : Rat) (m : Sq) : Prop where
  nn : ∀ k, 0 ≤ m k
  le : ∀ k, m k * m k ≤ c
  lim : Null fun k => c - m k * m k
  low : ∀ (j : Nat), (j : Rat) * (j : Rat) ≤ c * (65536 * 65536) → ∀ k, (j : Rat) ≤ m k * 65536
theorem nat_sqrt (n : Nat) : ∃ t : Nat, t * t ≤ n ∧ n < (t + 1) * (t + 1) := by
  induction n with
  | zero => exact ⟨0, by omega, by omega⟩
  | succ n ih =>
    obtain ⟨t, h1, h2⟩ := ih
    by_cases h : n + 1 < (t + 1) * (t + 1)
    · exact ⟨t, by omega, h⟩
    · refine ⟨t + 1, by omega, ?_⟩
      have : (t + 1 + 1) * (t + 1 + 1) = (t + 1) * (t + 1) + 2 * t + 3 := by
        simp only [Nat.add_mul, Nat.mul_add]; omega
      omega
theorem rt_sq_mono {x y : Rat} (_ : 0 ≤ x) (hy : 0 ≤ y) (h : x * x < y * y) : x < y := by
  rcases le_tot y x with q | q
  · have := mul_le hy q hy q
    grind
  · by_cases e : x = y
    · subst e; grind
    · grind
theorem mul_den' (e : Rat) : e * (e.den : Rat) = (e.num : Rat) := by
  have h : (e.den : Rat) ≠ 0 := by
    have := e.den_pos
    intro h
    have h' : ((e.den : Nat) : Rat) = ((0 : Nat) : Rat) := h
    have := Rat.natCast_inj.1 h'
    omega
  have := Rat.num_divInt_den e
  rw [Rat.divInt_eq_div] at this
  have h2 : ((e.den : Int) : Rat) = (e.den : Rat) := Rat.intCast_natCast _
  rw [h2] at this
  have h3 : (e.den : Rat) * ((e.num : Rat) / (e.den : Rat)) = (e.num : Rat) := by grind
  rw [this] at h3
  grind
theorem num_pos' {e : Rat} (h : 0 < e) : 0 < e.num := by
  have h1 := Rat.num_nonneg.2 (show (0 : Rat) ≤ e by grind)
  by_cases q : e.num = 0
  · rw [Rat.num_eq_zero] at q; grind
  · omega
theorem exists_unit {e : Rat} (he : 0 < e) : ∃ K : Nat, ∀ k : Nat, K ≤ k → 1 / ((k : Rat) + 1) ≤ e := by
  refine ⟨e.den, fun k hk => ?_⟩
  have h1 : (0 : Rat) < (k : Rat) + 1 := by
    have : (0 : Rat) ≤ (k : Rat) := Rat.natCast_nonneg
    grind
  have h2 : 1 ≤ e * (e.den : Rat) := by
    have hn : 0 < e.num := num_pos' he
    rw [mul_den' e]
    have : ((1 : Int) : Rat) ≤ (e.num : Rat) := Rat.intCast_le_intCast.2 (by omega)
    exact this
  have h3 : (e.den : Rat) ≤ (k : Rat) := Rat.natCast_le_natCast.2 hk
  have h4 : 0 ≤ e * ((k : Rat) - (e.den : Rat)) := Rat.mul_nonneg (by grind) (by grind)
  have h5 : ((k : Rat) + 1) * (1 / ((k : Rat) + 1)) = 1 := mul_div' h1
  rcases le_tot (1 / ((k : Rat) + 1)) e with q | q
  · exact q
  · have : 0 ≤ ((k : Rat) + 1) * (1 / ((k : Rat) + 1) - e) := Rat.mul_nonneg (by grind) (by grind)
    grind
theorem hlp1 {u v d w e : Rat} (hu : 0 < u) (hd : 0 < d) (a1 : u * v = 1) (a2 : d * w = e) (h : v ≤ w) : d ≤ e * u := by
  have : 0 ≤ (d * u) * (w - v) := Rat.mul_nonneg (Rat.mul_nonneg (by grind) (by grind)) (by grind)
  have e1 : (d * u) * (w - v) = (d * w) * u - d * (u * v) := by grind
  rw [e1, a1, a2] at this
  grind
theorem hlp2 {u c m e : Rat} (_ : 0 < e) (hu : 1 ≤ u) (h5 : 0 ≤ m) (g1 : 2 * c + 3 ≤ e * u) (g2 : m ≤ c + 1) (h1 : c * (65536 * u * (65536 * u)) < (65536 * u * m + 1) * (65536 * u * m + 1)) : c - m * m ≤ e := by
  rcases le_tot (c - m * m) e with q | q
  · exact q
  · have b3 : 0 ≤ (u * u) * (c - m * m - e) := Rat.mul_nonneg (Rat.mul_nonneg (by grind) (by grind)) (by grind)
    have b4 : 0 ≤ u * (c + 1 - m) := Rat.mul_nonneg (by grind) (by grind)
    have b5 : 0 ≤ u * (e * u - (2 * c + 3)) := Rat.mul_nonneg (by grind) (by grind)
    have b6 : c * (65536 * u * (65536 * u)) = 4294967296 * (c * (u * u)) := by grind
    have b7 : (65536 * u * m + 1) * (65536 * u * m + 1) = 4294967296 * (u * u * (m * m)) + 131072 * (u * m) + 1 := by grind
    have b8 : 0 ≤ u * m := Rat.mul_nonneg (by grind) h5
    have b9 : 0 < u * u := Rat.mul_pos (by grind) (by grind)
    rw [b6, b7] at h1
    grind
theorem exists_rt {c : Rat} (hc : 0 ≤ c) : ∃ m, IsRt c m := by
  have hD : ∀ k : Nat, (0 : Rat) < 65536 * ((k : Rat) + 1) := fun k => by
    have : (0 : Rat) ≤ (k : Rat) := Rat.natCast_nonneg
    grind
  have key : ∀ k : Nat, ∃ t : Nat, (t : Rat) * (t : Rat) ≤ c * ((65536 * ((k : Rat) + 1)) * (65536 * ((k : Rat) + 1))) ∧ c * ((65536 * ((k : Rat) + 1)) * (65536 * ((k : Rat) + 1))) < ((t : Rat) + 1) * ((t : Rat) + 1) := by
    intro k
    have hx : 0 ≤ c * ((65536 * ((k : Rat) + 1)) * (65536 * ((k : Rat) + 1))) := Rat.mul_nonneg hc (Rat.mul_nonneg (by have := hD k; grind) (by have := hD k; grind))
    generalize c * ((65536 * ((k : Rat) + 1)) * (65536 * ((k : Rat) + 1))) = x at hx
    obtain ⟨t, h1, h2⟩ := nat_sqrt x.floor.toNat
    have hf : 0 ≤ x.floor := Rat.le_floor_iff.2 (by simpa using hx)
    refine ⟨t, ?_, ?_⟩
    · have : ((t * t : Nat) : Int) ≤ x.floor := by omega
      have := Rat.le_floor_iff.1 this
      simpa [Rat.intCast_natCast] using this
    · have : x.floor < (((t + 1) * (t + 1) : Nat) : Int) := by omega
      have := Rat.floor_lt_iff.1 this
      simpa [Rat.intCast_natCast] using this
  obtain ⟨t, ht⟩ : ∃ t : Nat → Nat, ∀ k, (t k : Rat) * (t k : Rat) ≤ c * ((65536 * ((k : Rat) + 1)) * (65536 * ((k : Rat) + 1))) ∧ c * ((65536 * ((k : Rat) + 1)) * (65536 * ((k : Rat) + 1))) < ((t k : Rat) + 1) * ((t k : Rat) + 1) :=
    ⟨fun k => (key k).choose, fun k => (key k).choose_spec⟩
  have hm : ∀ k : Nat, (65536 * ((k : Rat) + 1)) * ((t k : Rat) / (65536 * ((k : Rat) + 1))) = (t k : Rat) := fun k => mul_div' (hD k)
  have hnn : ∀ k : Nat, 0 ≤ (t k : Rat) / (65536 * ((k : Rat) + 1)) := by
    intro k
    rw [Rat.div_def]
    exact Rat.mul_nonneg Rat.natCast_nonneg (by have := Rat.inv_pos.2 (hD k); grind)
  have hle : ∀ k : Nat, (t k : Rat) / (65536 * ((k : Rat) + 1)) * ((t k : Rat) / (65536 * ((k : Rat) + 1))) ≤ c := by
    intro k
    have h1 := (ht k).1
    have h2 := hm k
    have h3 := hD k
    generalize (t k : Rat) / (65536 * ((k : Rat) + 1)) = m at *
    generalize 65536 * ((k : Rat) + 1) = D at *
    rw [← h2] at h1
    rcases le_tot (m * m) c with q | q
    · exact q
    · by_cases e : m * m = c
      · rw [e]; exact Rat.le_refl
      · have : 0 < D * D * (m * m - c) := Rat.mul_pos (Rat.mul_pos h3 h3) (by grind)
        grind
  refine ⟨fun k => (t k : Rat) / (65536 * ((k : Rat) + 1)), hnn, hle, ?_, ?_⟩
  · intro e he
    have hc3 : (0 : Rat) < 2 * c + 3 := by grind
    obtain ⟨K, hK⟩ := exists_unit (div_pos' he hc3)
    refine ⟨K, fun k hk => ?_⟩
    have h1 := (ht k).2
    have h2 := hm k
    have h4 := hle k
    have h5 := hnn k
    have h6 := hK k hk
    have hk1 : (0 : Rat) < (k : Rat) + 1 := by have := hD k; grind
    have hk2 : (1 : Rat) ≤ (k : Rat) + 1 := by
      have : (0 : Rat) ≤ (k : Rat) := Rat.natCast_nonneg
      grind
    show -e ≤ c - (t k : Rat) / (65536 * ((k : Rat) + 1)) * ((t k : Rat) / (65536 * ((k : Rat) + 1))) ∧ c - (t k : Rat) / (65536 * ((k : Rat) + 1)) * ((t k : Rat) / (65536 * ((k : Rat) + 1))) ≤ e
    generalize (t k : Rat) / (65536 * ((k : Rat) + 1)) = m at *
    have g1 : 2 * c + 3 ≤ e * ((k : Rat) + 1) := hlp1 hk1 hc3 (mul_div' hk1) (mul_div' hc3) h6
    generalize (k : Rat) + 1 = u at *
    have g2 : m ≤ c + 1 := by
      rcases le_tot m (c + 1) with q | q
      · exact q
      · have := mul_le (show 0 ≤ c + 1 by grind) q (show 0 ≤ c + 1 by grind) q
        have : 0 ≤ c * c := Rat.mul_nonneg hc hc
        grind
    rw [← h2] at h1
    refine ⟨by grind, hlp2 he hk2 h5 g1 g2 h1⟩
  · intro j hj k
    have h1 := (ht k).2
    have h2 := hm k
    have hk1 : (0 : Rat) < (k : Rat) + 1 := by have := hD k; grind
    have g1 : (j : Rat) * ((k : Rat) + 1) < (t k : Rat) + 1 := by
      refine rt_sq_mono ?_ ?_ ?_
      · exact Rat.mul_nonneg Rat.natCast_nonneg (by grind)
      · have : (0 : Rat) ≤ (t k : Rat) := Rat.natCast_nonneg
        grind
      · have : 0 ≤ (((k : Rat) + 1) * ((k : Rat) + 1)) * (c * (65536 * 65536) - (j : Rat) * (j : Rat)) := Rat.mul_nonneg (Rat.mul_nonneg (by grind) (by grind)) (by grind)
        grind
    have g2 : j * (k + 1) < t k + 1 := by
      have : ((j * (k + 1) : Nat) : Rat) < ((t k + 1 : Nat) : Rat) := by simpa using g1
      exact Rat.natCast_lt_natCast.1 this
    have g3 : (j : Rat) * ((k : Rat) + 1) ≤ (t k : Rat) := by
      have : ((j * (k + 1) : Nat) : Rat) ≤ ((t k : Nat) : Rat) := Rat.natCast_le_natCast.2 (by omega)
      simpa using this
    show (j : Rat) ≤ (t k : Rat) / (65536 * ((k : Rat) + 1)) * 65536
    generalize (t k : Rat) / (65536 * ((k : Rat) + 1)) = m at *
    rw [← h2] at g3
    rcases le_tot (j : Rat) (m * 65536) with q | q
    · exact q
    · have : 0 ≤ ((k : Rat) + 1) * ((j : Rat) - m * 65536) := Rat.mul_nonneg (by grind) (by grind)
      by_cases e : (j : Rat) = m * 65536
      · grind
      · have : 0 < ((k : Rat) + 1) * ((j : Rat) - m * 65536) := Rat.mul_pos hk1 (by grind)
        grind
theorem IsRt.bdd {c : Rat} {m : Sq} (hc : 0 ≤ c) (h : IsRt c m) : Bdd m := by
  refine ⟨c + 1, by grind, fun k => ⟨by have := h.nn k; grind, ?_⟩⟩
  have := h.le k
  rcases le_tot (m k) (c + 1) with q | q
  · exact q
  · have := mul_le (show 0 ≤ c + 1 by grind) q (show 0 ≤ c + 1 by grind) q
    have : 0 ≤ c * c := Rat.mul_nonneg hc hc
    grind
theorem IsRt.zero {m : Sq} (h : IsRt 0 m) : ∀ k, m k = 0 := by
  intro k
  have h1 := h.le k
  have h2 := h.nn k
  by_cases e : m k = 0
  · exact e
  · have : 0 < m k * m k := Rat.mul_pos (by grind) (by grind)
    grind
theorem IsRt.pos {c : Rat} {m : Sq} (hc : 0 < c) (h : IsRt c m) : PosS m := by
  have h1 : PosS fun k => m k * m k := by
    have := pos_add_null (f := fun _ => c) ⟨c, hc, 0, fun _ _ => Rat.le_refl⟩ (null_neg h.lim)
    exact pos_congr (fun k => by grind) this
  obtain ⟨e, he, K, hK⟩ := h1
  refine ⟨e / (c + 1), div_pos' he (by grind), K, fun k hk => ?_⟩
  have h2 := hK k hk
  have h3 := h.nn k
  have h4 : m k ≤ c + 1 := by
    have := h.le k
    rcases le_tot (m k) (c + 1) with q | q
    · exact q
    · have := mul_le (show 0 ≤ c + 1 by grind) q (show 0 ≤ c + 1 by grind) q
      have : 0 < c * c := Rat.mul_pos hc hc
      grind
  have h5 : (c + 1) * (e / (c + 1)) = e := mul_div' (by grind)
  have h6 : 0 ≤ m k * (c + 1 - m k) := Rat.mul_nonneg h3 (by grind)
  rcases le_tot (e / (c + 1)) (m k) with q | q
  · exact q
  · by_cases e0 : e / (c + 1) = m k
    · grind
    · have : 0 < (c + 1) * (e / (c + 1) - m k) := Rat.mul_pos (by grind) (by grind)
      grind
theorem IsRt.sg {c : Rat} {m : Sq} (hc : 0 ≤ c) (h : IsRt c m) : HasSg m (sgQ' c) := by
  unfold sgQ'
  split
  · rename_i q; exact .inl ⟨rfl, h.pos q⟩
  · split
    · rename_i q
      subst q
      exact .inr (.inl ⟨rfl, null_congr (fun k => (h.zero k).symm) null_zero⟩)
    · grind
/-- Two sequences of numbers that are not negative, with squares that come near. -/
theorem near_of_squares {f g : Sq} (hf : ∀ k, 0 ≤ f k) (hg : ∀ k, 0 ≤ g k) (h : Null fun k => f k * f k - g k * g k) : Null fun k => f k - g k := by
  intro e he
  obtain ⟨K, hK⟩ := h (e * e) (Rat.mul_pos he he)
  refine ⟨K, fun k hk => ?_⟩
  have h1 := hK k hk
  have h2 := hf k
  have h3 := hg k
  constructor
  · rcases le_tot (-e) (f k - g k) with q | q
    · exact q
    · by_cases e0 : f k - g k = -e
      · grind
      · have := mul_le (show 0 ≤ e by grind) (show e ≤ g k - f k by grind) (show 0 ≤ e by grind) (show e ≤ g k - f k by grind)
        have : 0 ≤ f k * (g k - f k - e) := Rat.mul_nonneg h2 (by grind)
        have : 0 ≤ f k * e := Rat.mul_nonneg h2 (by grind)
        have : 0 < (g k - f k - e) * e := Rat.mul_pos (by grind) he
        have : 0 ≤ (g k - f k - e) * (g k - f k - e) := Rat.mul_nonneg (by grind) (by grind)
        grind
  · rcases le_tot (f k - g k) e with q | q
    · exact q
    · by_cases e0 : f k - g k = e
      · grind
      · have : 0 ≤ g k * (f k - g k - e) := Rat.mul_nonneg h3 (by grind)
        have : 0 ≤ g k * e := Rat.mul_nonneg h3 (by grind)
        have : 0 < (f k - g k - e) * e := Rat.mul_pos (by grind) he
        have : 0 ≤ (f k - g k - e) * (f k - g k - e) := Rat.mul_nonneg (by grind) (by grind)
        grind
end Go.Proofs.Ytdleiiboffkidaa
end

/- ---- Seqb ---- -/
section
/-
  Signs of sums with two square roots, and of intervals, over sequences.
-/
set_option maxRecDepth 100000
namespace Go.Proofs.Ytdleiiboffkidaa
theorem sgQ'_pos {a : Rat} (h : 0 < a) : sgQ' a = 1 := if_pos h
theorem sgQ'_zero : sgQ' 0 = 0 := rfl
theorem sgQ'_neg {a : Rat} (h : a < 0) : sgQ' a = -1 := by
  unfold sgQ'
  rw [if_neg (by grind), if_neg (by grind)]
def sg2 (a b m : Rat) : Int := sumSg (sgQ' a) (sgQ' b * sgQ' m) (sgQ' (a * a - b * b * m))
def sg4 (A B C D M N : Rat) : Int := sumSg (sg2 A B M) (sg2 C D M * sgQ' N) (sg2 (A * A + B * B * M - N * (C * C + D * D * M)) ((A * B - N * (C * D)) + (A * B - N * (C * D))) M)
theorem sqv2 {a b M : Rat} {m : Sq} (hM : 0 ≤ M) (h : IsRt M m) : HasSg (fun k => a + b * m k) (sg2 a b M) := by
  refine HasSg.sum (f := fun _ => a) (g := fun k => b * m k) (hasSg_const a) (HasSg.mul (f := fun _ => b) (hasSg_const b) (h.sg hM) (bdd_const b) (h.bdd hM)) (bdd_const a) (bdd_mul (bdd_const b) (h.bdd hM)) ?_
  refine (hasSg_const (a * a - b * b * M)).near ?_
  refine null_congr (fun k => ?_) (null_mul (bdd_const (b * b)) h.lim)
  grind
theorem bdd2 {a b M : Rat} {m : Sq} (hM : 0 ≤ M) (h : IsRt M m) : Bdd (fun k => a + b * m k) := bdd_add (f := fun _ => a) (bdd_const a) (bdd_mul (f := fun _ => b) (bdd_const b) (h.bdd hM))
theorem sqv4 {A B C D M N : Rat} {m n : Sq} (hM : 0 ≤ M) (hN : 0 ≤ N) (h : IsRt M m) (k : IsRt N n) : HasSg (fun i => (A + B * m i) + (C + D * m i) * n i) (sg4 A B C D M N) := by
  have b1 : Bdd fun i => A + B * m i := bdd2 hM h
  have b2 : Bdd fun i => C + D * m i := bdd2 hM h
  refine HasSg.sum (f := fun i => A + B * m i) (g := fun i => (C + D * m i) * n i) (sqv2 hM h) (HasSg.mul (f := fun i => C + D * m i) (sqv2 hM h) (k.sg hN) b2 (k.bdd hN)) b1 (bdd_mul b2 (k.bdd hN)) ?_
  refine (sqv2 (a := A * A + B * B * M - N * (C * C + D * D * M)) (b := (A * B - N * (C * D)) + (A * B - N * (C * D))) hM h).near ?_
  have n1 := null_mul (f := fun _ => N * (D * D) - B * B) (bdd_const _) h.lim
  have n2 := null_mul (f := fun i => (C + D * m i) * (C + D * m i)) (bdd_mul b2 b2) k.lim
  refine null_congr (fun i => ?_) (null_add n1 n2)
  grind
/-- Intervals in units of 1 / 65536. -/
def IvIn (l h : Int) (f : Sq) : Prop := ∀ k, (l : Rat) ≤ f k * 65536 ∧ f k * 65536 ≤ (h : Rat)
theorem IvIn.add {l h l' h' : Int} {f g : Sq} (a : IvIn l h f) (b : IvIn l' h' g) : IvIn (l + l') (h + h') fun k => f k + g k := fun k => by
  have := a k
  have := b k
  rw [Rat.intCast_add, Rat.intCast_add]
  grind
theorem IvIn.neg {l h : Int} {f : Sq} (a : IvIn l h f) : IvIn (-h) (-l) fun k => - f k := fun k => by
  have := a k
  rw [Rat.intCast_neg, Rat.intCast_neg]
  grind
theorem mul_between {a b c d x y : Rat} (h1 : a ≤ x) (h2 : x ≤ b) (h3 : c ≤ y) (h4 : y ≤ d) {lo : Rat} (l1 : lo ≤ a * c) (l2 : lo ≤ a * d) (l3 : lo ≤ b * c) (l4 : lo ≤ b * d) : lo ≤ x * y := by
  have hy : lo ≤ x * c ∧ lo ≤ x * d := by
    constructor
    · rcases le_tot 0 c with q | q
      · have : 0 ≤ (x - a) * c := Rat.mul_nonneg (by grind) q
        grind
      · have : 0 ≤ (b - x) * (-c) := Rat.mul_nonneg (by grind) (by grind)
        grind
    · rcases le_tot 0 d with q | q
      · have : 0 ≤ (x - a) * d := Rat.mul_nonneg (by grind) q
        grind
      · have : 0 ≤ (b - x) * (-d) := Rat.mul_nonneg (by grind) (by grind)
        grind
  rcases le_tot 0 x with q | q
  · have : 0 ≤ (y - c) * x := Rat.mul_nonneg (by grind) q
    grind
  · have : 0 ≤ (d - y) * (-x) := Rat.mul_nonneg (by grind) (by grind)
    grind
def fl16 (p : Int) : Int := p / 65536
def cl16 (p : Int) : Int := -((-p) / 65536)
theorem fl16_le (p : Int) : (fl16 p : Rat) * 65536 ≤ (p : Rat) := by
  have : fl16 p * 65536 ≤ p := by unfold fl16; omega
  have h := Rat.intCast_le_intCast.2 this
  rw [Rat.intCast_mul] at h
  exact h
theorem le_cl16 (p : Int) : (p : Rat) ≤ (cl16 p : Rat) * 65536 := by
  have : p ≤ cl16 p * 65536 := by unfold cl16; omega
  have h := Rat.intCast_le_intCast.2 this
  rw [Rat.intCast_mul] at h
  exact h
def mulLo (a b c d : Int) : Int := min (min (fl16 (a * c)) (fl16 (a * d))) (min (fl16 (b * c)) (fl16 (b * d)))
def mulHi (a b c d : Int) : Int := max (max (cl16 (a * c)) (cl16 (a * d))) (max (cl16 (b * c)) (cl16 (b * d)))
theorem mulLo_spec {a b c d p : Int} {q : Rat} (h : mulLo a b c d ≤ fl16 p) (hq : q = (p : Rat)) : (mulLo a b c d : Rat) * 65536 ≤ q := by
  have h1 := fl16_le p
  have h2 := Rat.intCast_le_intCast.2 h
  grind
theorem mulHi_spec {a b c d p : Int} {q : Rat} (h : cl16 p ≤ mulHi a b c d) (hq : q = (p : Rat)) : q ≤ (mulHi a b c d : Rat) * 65536 := by
  have h1 := le_cl16 p
  have h2 := Rat.intCast_le_intCast.2 h
  grind
theorem mulLo_le (a b c d : Int) : mulLo a b c d ≤ fl16 (a * c) ∧ mulLo a b c d ≤ fl16 (a * d) ∧ mulLo a b c d ≤ fl16 (b * c) ∧ mulLo a b c d ≤ fl16 (b * d) := by
  unfold mulLo; omega
theorem le_mulHi (a b c d : Int) : cl16 (a * c) ≤ mulHi a b c d ∧ cl16 (a * d) ≤ mulHi a b c d ∧ cl16 (b * c) ≤ mulHi a b c d ∧ cl16 (b * d) ≤ mulHi a b c d := by
  unfold mulHi; omega
theorem IvIn.mul {a b c d : Int} {f g : Sq} (h : IvIn a b f) (k : IvIn c d g) : IvIn (mulLo a b c d) (mulHi a b c d) fun i => f i * g i := fun i => by
  obtain ⟨h1, h2⟩ := h i
  obtain ⟨k1, k2⟩ := k i
  obtain ⟨l1, l2, l3, l4⟩ := mulLo_le a b c d
  obtain ⟨u1, u2, u3, u4⟩ := le_mulHi a b c d
  have e1 := mul_between h1 h2 k1 k2 (mulLo_spec l1 (Rat.intCast_mul a c).symm) (mulLo_spec l2 (Rat.intCast_mul a d).symm) (mulLo_spec l3 (Rat.intCast_mul b c).symm) (mulLo_spec l4 (Rat.intCast_mul b d).symm)
  have e2 := mul_between (a := -(b : Rat)) (b := -(a : Rat)) (x := -(f i * 65536)) (lo := -((mulHi a b c d : Rat) * 65536)) (by grind) (by grind) k1 k2 (by have := mulHi_spec u3 (Rat.intCast_mul b c).symm; grind) (by have := mulHi_spec u4 (Rat.intCast_mul b d).symm; grind) (by have := mulHi_spec u1 (Rat.intCast_mul a c).symm; grind) (by have := mulHi_spec u2 (Rat.intCast_mul a d).symm; grind)
  constructor <;> grind
theorem IvIn.sqrt {l h lo hi : Int} {C : Rat} {m : Sq} (_ : 0 ≤ C) (hm : IsRt C m) (hc : IvIn l h fun _ => C) (h0 : 0 ≤ lo) (h1 : lo * lo ≤ max 0 l * 65536) (h2 : 0 ≤ hi) (h3 : h * 65536 ≤ hi * hi) : IvIn lo hi m := fun k => by
  have hC := hc 0
  constructor
  · obtain ⟨j, rfl⟩ := Int.eq_ofNat_of_zero_le h0
    have := hm.low j ?_ k
    · exact this
    · rcases Int.le_total 0 l with q | q
      · rw [Int.max_eq_right q] at h1
        have h1' := Rat.intCast_le_intCast.2 h1
        rw [Rat.intCast_mul, Rat.intCast_mul] at h1'
        have e : ((j : Int) : Rat) = (j : Rat) := rfl
        rw [e] at h1'
        have e2 : ((65536 : Int) : Rat) = 65536 := rfl
        rw [e2] at h1'
        grind
      · rw [Int.max_eq_left q] at h1
        have h1' := Rat.intCast_le_intCast.2 h1
        rw [Rat.intCast_mul] at h1'
        have e : ((j : Int) : Rat) = (j : Rat) := rfl
        rw [e] at h1'
        have e2 : ((0 * 65536 : Int) : Rat) = 0 := rfl
        rw [e2] at h1'
        grind
  · have h3' := Rat.intCast_le_intCast.2 h3
    rw [Rat.intCast_mul, Rat.intCast_mul] at h3'
    have e2 : ((65536 : Int) : Rat) = 65536 := rfl
    rw [e2] at h3'
    have h2' := Rat.intCast_le_intCast.2 h2
    have e0 : ((0 : Int) : Rat) = 0 := rfl
    rw [e0] at h2'
    have g := hm.le k
    have g0 := hm.nn k
    rcases le_tot (m k * 65536) (hi : Rat) with q | q
    · exact q
    · by_cases e : m k * 65536 = (hi : Rat)
      · grind
      · have : 0 < (m k * 65536 - (hi : Rat)) * (m k * 65536 - (hi : Rat)) := Rat.mul_pos (by grind) (by grind)
        have : 0 ≤ (hi : Rat) * (m k * 65536 - (hi : Rat)) := Rat.mul_nonneg h2' (by grind)
        grind
/-- The sign of an interval, where it is known. -/
def ivSg (l h : Int) : Option Int := if 0 < l then some 1 else if h < 0 then some (-1) else if l = 0 ∧ h = 0 then some 0 else none
theorem ivSg_spec {l h s : Int} {f : Sq} (hs : ivSg l h = some s) (hf : IvIn l h f) : HasSg f s := by
  unfold ivSg at hs
  split at hs
  · rename_i q
    injection hs with hs
    subst hs
    have q' := Rat.intCast_le_intCast.2 (show 1 ≤ l by omega)
    have e1 : ((1 : Int) : Rat) = 1 := rfl
    rw [e1] at q'
    exact .inl ⟨rfl, 1 / 65536, by grind, 0, fun k _ => by have := hf k; grind⟩
  · split at hs
    · rename_i q
      injection hs with hs
      subst hs
      have q' := Rat.intCast_le_intCast.2 (show h ≤ -1 by omega)
      have e1 : ((-1 : Int) : Rat) = -1 := rfl
      rw [e1] at q'
      exact .inr (.inr ⟨rfl, 1 / 65536, by grind, 0, fun k _ => by have := hf k; grind⟩)
    · split at hs
      · rename_i q
        injection hs with hs
        subst hs
        obtain ⟨rfl, rfl⟩ := q
        refine .inr (.inl ⟨rfl, null_congr (fun k => ?_) null_zero⟩)
        have := hf k
        have e0 : ((0 : Int) : Rat) = 0 := rfl
        rw [e0] at this
        grind
      · cases hs
def flR (a : Rat) : Int := (a * 65536).floor
def clR (a : Rat) : Int := -(-(a * 65536)).floor
theorem IvIn.const (a : Rat) : IvIn (flR a) (clR a) fun _ => a := fun _ => by
  have h1 := Rat.floor_le (a * 65536)
  have h2 := Rat.floor_le (-(a * 65536))
  unfold flR clR
  rw [Rat.intCast_neg]
  constructor
  · exact h1
  · grind
end Go.Proofs.Ytdleiiboffkidaa
end

/- ---- Seqc ---- -/
section
/-
  Products of intervals: their ends, rounded outwards, and parts.
-/
set_option maxRecDepth 100000
namespace Go.Proofs.Ytdleiiboffkidaa
theorem or_shift (P : Nat) : ((P / 18446744073709551616 * 281474976710656) ||| (P % 18446744073709551616 / 65536)) = P / 65536 := by
  have e : P / 18446744073709551616 * 281474976710656 = 2 ^ 48 * (P / 18446744073709551616) := by rw [Nat.mul_comm]
  have h2 : P % 18446744073709551616 / 65536 < 2 ^ 48 := by omega
  rw [e, ← Nat.two_pow_add_eq_or_of_lt h2]
  omega
theorem int_mul_between {a b c d x y lo : Int} (h1 : a ≤ x) (h2 : x ≤ b) (h3 : c ≤ y) (h4 : y ≤ d) (l1 : lo ≤ a * c) (l2 : lo ≤ a * d) (l3 : lo ≤ b * c) (l4 : lo ≤ b * d) : lo ≤ x * y := by
  have e : ∀ {p q : Int}, p ≤ q → (p : Rat) ≤ (q : Rat) := fun h => Rat.intCast_le_intCast.2 h
  refine Rat.intCast_le_intCast.1 ?_
  rw [Rat.intCast_mul]
  exact mul_between (e h1) (e h2) (e h3) (e h4) (by rw [← Rat.intCast_mul]; exact e l1) (by rw [← Rat.intCast_mul]; exact e l2) (by rw [← Rat.intCast_mul]; exact e l3) (by rw [← Rat.intCast_mul]; exact e l4)
theorem fl16_mono {p q : Int} (h : p ≤ q) : fl16 p ≤ fl16 q := by unfold fl16; omega
theorem cl16_eq (p : Int) : cl16 p = -fl16 (-p) := rfl
theorem mulLo_below {a b c d x y : Int} (h1 : a ≤ x) (h2 : x ≤ b) (h3 : c ≤ y) (h4 : y ≤ d) : mulLo a b c d ≤ fl16 (x * y) := by
  have e : ∃ m : Int, m ≤ a * c ∧ m ≤ a * d ∧ m ≤ b * c ∧ m ≤ b * d ∧ mulLo a b c d ≤ fl16 m := by
    refine ⟨min (min (a * c) (a * d)) (min (b * c) (b * d)), by omega, by omega, by omega, by omega, ?_⟩
    unfold mulLo
    generalize a * c = p
    generalize a * d = q
    generalize b * c = r
    generalize b * d = s
    unfold fl16
    omega
  obtain ⟨m, l1, l2, l3, l4, hm⟩ := e
  have := fl16_mono (int_mul_between h1 h2 h3 h4 l1 l2 l3 l4)
  omega
theorem above_mulHi {a b c d x y : Int} (h1 : a ≤ x) (h2 : x ≤ b) (h3 : c ≤ y) (h4 : y ≤ d) : cl16 (x * y) ≤ mulHi a b c d := by
  have := mulLo_below (a := -b) (b := -a) (x := -x) (by omega) (by omega) h3 h4
  have e : mulHi a b c d = - mulLo (-b) (-a) c d := by
    unfold mulHi mulLo
    simp only [cl16_eq, Int.neg_mul]
    omega
  rw [e, cl16_eq, ← Int.neg_mul]
  omega
theorem mulParts {a b c d a' b' c' d' : Int} (h1 : a ≤ a') (h2 : a' ≤ b') (h3 : b' ≤ b) (k1 : c ≤ c') (k2 : c' ≤ d') (k3 : d' ≤ d) : mulLo a b c d ≤ mulLo a' b' c' d' ∧ mulHi a' b' c' d' ≤ mulHi a b c d := by
  have l1 := mulLo_below (a := a) (b := b) (c := c) (d := d) (x := a') (y := c') (by omega) (by omega) (by omega) (by omega)
  have l2 := mulLo_below (a := a) (b := b) (c := c) (d := d) (x := a') (y := d') (by omega) (by omega) (by omega) (by omega)
  have l3 := mulLo_below (a := a) (b := b) (c := c) (d := d) (x := b') (y := c') (by omega) (by omega) (by omega) (by omega)
  have l4 := mulLo_below (a := a) (b := b) (c := c) (d := d) (x := b') (y := d') (by omega) (by omega) (by omega) (by omega)
  have u1 := above_mulHi (a := a) (b := b) (c := c) (d := d) (x := a') (y := c') (by omega) (by omega) (by omega) (by omega)
  have u2 := above_mulHi (a := a) (b := b) (c := c) (d := d) (x := a') (y := d') (by omega) (by omega) (by omega) (by omega)
  have u3 := above_mulHi (a := a) (b := b) (c := c) (d := d) (x := b') (y := c') (by omega) (by omega) (by omega) (by omega)
  have u4 := above_mulHi (a := a) (b := b) (c := c) (d := d) (x := b') (y := d') (by omega) (by omega) (by omega) (by omega)
  constructor
  · unfold mulLo at *; omega
  · unfold mulHi at *; omega
theorem mulLo_le_mulHi (a b c d : Int) : mulLo a b c d ≤ mulHi a b c d := by
  unfold mulLo mulHi
  generalize a * c = p
  generalize a * d = q
  generalize b * c = r
  generalize b * d = s
  unfold cl16 fl16
  omega
end Go.Proofs.Ytdleiiboffkidaa
end
