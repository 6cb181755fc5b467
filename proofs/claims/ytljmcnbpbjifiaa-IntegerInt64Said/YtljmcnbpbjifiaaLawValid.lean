/-
  What the statement on valid integers does when it is called.
-/
import Derived.Test.YtljmcnbpbjifiaaLawRing
namespace Go.Proofs.Ytljmcnbpbjifiaa
open Go.RowKit

set_option maxRecDepth 100000 in
set_option maxHeartbeats 3200000 in
theorem lawValid_calls (w : World) (v1 : Value) (s : Bool) (xs : List Nat) (h : Raw w v1 s xs) :
    Calls Try.prog 3 #[v1] w fun e w' => e = .returned (.bool true) ∧ Ext w w' := by
  have hR := h
  obtain ⟨ao, cap, rfl, h1, h2, h3⟩ := h
  obtain ⟨W, hW, eW, c0, c1⟩ := box1 w (.bool s) (.slice ao xs.length cap) 24
  by_cases hl : xs.length ≤ 16
  · have hlI : decide ((16 : Int) < (xs.length : Int)) = false := decide_eq_false (by omega)
    have HL := Lib.hid (show xs.length ≤ 1048576 by omega)
    clear hl h1 h2 h3
    go_enter Try.func3, Try.ntmps3
    go_wp2_with fail
    clear hW
    refine (awake_calls _).mono ?_
    rintro e w1 ⟨rfl, e1⟩
    replace c0 := e1.cell c0
    replace c1 := e1.cell c1
    replace eW := eW.trans e1
    have c0d : w1.drew.cell? ⟨w.heap.size, 0, none⟩ = some (.bool s) := c0
    have c1d : w1.drew.cell? ⟨w.heap.size, 1, none⟩ = some (.slice ao xs.length cap) := c1
    clear e1
    go_wp2_with fail
    go_region_held3 (fun w' => w'.cell? ⟨w.heap.size, 0, none⟩ = some (.bool s) ∧ w'.cell? ⟨w.heap.size, 1, none⟩ = some (.slice ao xs.length cap))
      (first | with_reducible exact ⟨c0d, c1d⟩ | with_reducible exact ⟨p0, p1⟩ | with_reducible exact ⟨q0, q1⟩ | with_reducible exact ⟨r0, r1⟩) ((first
        | (go_at_call 13; ((with_reducible refine (cp_calls _ _ s xs (hR.ext eW.drew) HL.out).mono ?_)); rintro e w2 ⟨x2, rfl, hx2, e2⟩; have p0 := e2.of_drew.cell c0; have p1 := e2.of_drew.cell c1)
        | (go_at_call 12; ((with_reducible refine (valid_calls _ _ s xs hx2).mono ?_)); rintro e w3 ⟨rfl, e3⟩; have q0 := e3.cell p0; have q1 := e3.cell p1)
        | (go_at_call 14; ((with_reducible refine (rvalid_calls _ _ s xs (hR.ext ((eW.trans e2.of_drew).trans e3))).mono ?_)); rintro e w4 ⟨rfl, e4⟩; have r0 := e4.cell q0; have r1 := e4.cell q1)))
    go_wp2
    go_ret
    exact ⟨ret_bool (by cases okB s xs <;> rfl), ((eW.trans e2.of_drew).trans e3).trans e4⟩
  · have hlI : decide ((16 : Int) < (xs.length : Int)) = true := decide_eq_true (by omega)
    clear hl h1 h2 h3
    go_enter Try.func3, Try.ntmps3
    go_wp2_with fail
    clear hW
    refine (awake_calls _).mono ?_
    rintro e w1 ⟨rfl, e1⟩
    replace c0 := e1.cell c0
    replace c1 := e1.cell c1
    go_wp2_with fail
    refine (awake_calls _).mono ?_
    rintro e w2 ⟨rfl, e2⟩
    go_wp2
    go_ret
    exact ⟨rfl, (eW.trans e1).trans e2⟩

end Go.Proofs.Ytljmcnbpbjifiaa
