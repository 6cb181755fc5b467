/-
  What the statement on Int64 and FromInt64 does when it is called.
-/
import Derived.Test.YtljmcnbpbjifiaaLawValid
import Derived.Test.YtljmcnbpbjifiaaRint64
namespace Go.Proofs.Ytljmcnbpbjifiaa
open Go.RowKit

theorem item_new1 {w : World} {b1 : Bool} {a1 : Option Addr} {x1 : List Nat} {c1 : Nat} (k1 : x1.length ≤ c1) (l1 : c1 ≤ 9223372036854775807) (h1 : Cells w a1 x1) :
    ∀ k, k < [(b1, x1)].length → Item (w.alloc (.cells #[.bool b1, .slice a1 x1.length c1] 24)) w.heap.size k ([(b1, x1)].getD k (false, [])) := by
  have e := (Ext.refl w).alloc (.cells #[.bool b1, .slice a1 x1.length c1] 24)
  intro k hk
  match k, hk with
  | 0, _ => exact ⟨a1, c1, by simp, by simp, k1, l1, h1.ext e⟩

theorem int64_in (w : World) (v : Value) (z : Int) (h : IsInt w v z) (k : Hid (-9223372036854775808 ≤ z ∧ z ≤ 9223372036854775807)) :
    Calls Try.prog 16 #[v] w fun e w' => e = .returned (.tuple #[.int .i64 z, .bool true]) ∧ Ext w w' := by
  have := int64_calls w v z h
  rw [(i64_in k.out.1 k.out.2).1, (i64_in k.out.1 k.out.2).2] at this
  exact this

set_option maxRecDepth 100000 in
set_option maxHeartbeats 3200000 in
theorem lawInt64_calls (w : World) (a : Int) (v1 : Value) (s : Bool) (xs : List Nat) (ha1 : -9223372036854775808 ≤ a) (ha2 : a ≤ 9223372036854775807) (h : Raw w v1 s xs) :
    Calls Try.prog 4 #[.int .i64 a, v1] w fun e w' => e = .returned (.bool true) ∧ Ext w w' := by
  have hR := h
  obtain ⟨ao, cap, rfl, h1, h2, h3⟩ := h
  obtain ⟨W, hW, eW, c0, c1⟩ := box1 w (.bool s) (.slice ao xs.length cap) 24
  have HA := Lib.hid (And.intro ha1 ha2)
  have HI := Lib.hid (And.intro h1 (And.intro h2 h3))
  clear h1 h2 h3 ha1 ha2
  go_enter Try.func4, Try.ntmps4
  go_wp2_with fail
  clear hW
  refine (awake_calls _).mono ?_
  rintro e w1 ⟨rfl, e1⟩
  replace c0 := e1.cell c0
  replace c1 := e1.cell c1
  replace eW := eW.trans e1
  clear e1
  have hsm := Lib.hid (small_calls _ w1.heap.size [(s, xs)] (by simp) (item_new1 HI.out.1 HI.out.2.1 (HI.out.2.2.ext eW)))
  go_wp2_with fail
  refine hsm.out.mono ?_
  rintro e w2 ⟨rfl, e2⟩
  replace e2 := ((Ext.refl w1).alloc _).trans e2
  replace c0 := e2.cell c0
  replace c1 := e2.cell c1
  replace eW := eW.trans e2
  clear e2 hsm HI
  cases hb : [(s, xs)].all smB
  · clear hb
    go_wp2_with fail
    refine (awake_calls _).mono ?_
    rintro e w3 ⟨rfl, e3⟩
    go_wp2
    go_ret
    exact ⟨rfl, eW.trans e3⟩
  · have hb1 : smB (s, xs) = true := by simpa using hb
    obtain ⟨i1, l1, m1⟩ := smB_int hR hb1
    have HL := Lib.hid l1
    have HB := Lib.hid hb1
    clear hb hb1 l1
    go_wp2_with fail
    refine (fromInt64_calls _ _ HA.out.1 HA.out.2).mono ?_
    rintro e w3 ⟨x3, rfl, hx3, e3⟩
    go_wp2_with fail
    refine (int64_in _ _ _ hx3 HA).mono ?_
    rintro e w4 ⟨rfl, e4⟩
    replace e3 := e3.trans e4
    replace c0 := e3.cell c0
    replace c1 := e3.cell c1
    replace eW := eW.trans e3
    clear hx3 e3 e4
    go_wp2_with fail
    refine (cp_calls _ _ s xs (hR.ext eW) (by have := HL.out; omega)).mono ?_
    rintro e w5 ⟨x5, rfl, hx5, e5⟩
    go_wp2_with fail
    refine (int64_calls _ _ _ (smB_int hx5 HB.out).1).mono ?_
    rintro e w6 ⟨rfl, e6⟩
    replace e5 := e5.trans e6
    replace c0 := e5.cell c0
    replace c1 := e5.cell c1
    replace eW := eW.trans e5
    clear hx5 e5 e6
    go_wp2_with fail
    refine (rint64_calls _ _ _ (i1.ext eW)).mono ?_
    rintro e w7 ⟨rfl, e7⟩
    replace eW := eW.trans e7
    clear e7 c0 c1 i1 hR
    generalize i64v (sgn s (val xs)) = iv
    generalize i64ok (sgn s (val xs)) = ib
    go_wp2_with fail
    refine (fromInt64_calls _ _ HA.out.1 HA.out.2).mono ?_
    rintro e w8 ⟨x8, rfl, hx8, e8⟩
    go_wp2_with fail
    refine (rfromInt64_calls _ _ HA.out.1 HA.out.2).mono ?_
    rintro e w9 ⟨x9, rfl, hx9, e9⟩
    go_wp2_with fail
    refine (same_calls _ _ _ _ _ (hx8.ext e9) hx9).mono ?_
    rintro e w10 ⟨rfl, e10⟩
    replace eW := ((eW.trans e8).trans e9).trans e10
    clear e8 e9 e10 hx8 hx9
    have hd : decide (a = a) = true := decide_eq_true rfl
    go_wp2
    go_ret
    exact ⟨ret_bool (by simp), eW⟩

end Go.Proofs.Ytljmcnbpbjifiaa
