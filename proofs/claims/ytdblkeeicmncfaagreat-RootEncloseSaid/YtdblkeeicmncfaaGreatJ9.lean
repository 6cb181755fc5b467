/-
  Texts of this seat, joined.
-/
import Derived.Test.YtdblkeeicmncfaaGreatJ8
import Derived.Test.YtdblkeeicmncfaaGreatRows
import Derived.ProofKit
import Derived.OpenShut
import Derived.ChangeOld
import Derived.Lib.SmallJoins
import Derived.LaidLaws
import Derived.Handed
/- ---- Rtk ---- -/
section
/-
  Valid and Small of roots, of any structs, and of rows of them.
-/
set_option maxRecDepth 100000
namespace Go.Proofs.YtdblkeeicmncfaaGreat
open Go.RowKit

def sqG (b : Bool) : BT × Bool := (.and (sqT (qv 2).1) (sqT (qv 2).2), b)
noncomputable def tbV : List (Nat × Con) := [(69, kVl), (49, kVl), (59, kSqQ), (65, kSqQ)]
theorem tbV_ok {E : Env} (hE : QEnv E) : TabOK Tryz.prog E tbV :=
  .cons (kVl_ok hE (fun w v s1 s2 xs1 xs2 h l1 l2 => valid_rat_calls w v s1 s2 xs1 xs2 h l1 l2) ⟨_, Tryz.func69, by decide +kernel, by kernel_rfl⟩)
    (.cons (kVl_ok hE (fun w v s1 s2 xs1 xs2 h l1 l2 => rvalid_rat_calls w v s1 s2 xs1 xs2 h l1 l2) ⟨_, Tryz.func49, by decide +kernel, by kernel_rfl⟩)
      (.cons (kSqQ_ok (fun w v n d h l m => sqrtQ_calls w v n d h l m) ⟨_, Tryz.func59, by decide +kernel, by kernel_rfl⟩)
        (.cons (kSqQ_ok (fun w v n d h l m => rsqrtQ_calls w v n d h l m) ⟨_, Tryz.func65, by decide +kernel, by kernel_rfl⟩) .nil)))
def lfB (t : BT) : Tree := .leaf [(false, [.b t])]
theorem lfB_out {E : Env} {β : Nat → Nat} {w : World} {v : Value} {t : BT} (h : (toAV ((lfB t).pick E)).holds E β w v) : v = .bool (t.den E) := one_bool.1 h
theorem sq_test {c : Rat} (h : 0 < c) : (sqB c.num && sqB (c.den : Int)) = (sqz c.num && sqz (c.den : Int)) := by
  have := (num_pos_iff c).2 h
  rw [sqz_sqB (by omega), sqz_sqB (by have := c.den_pos; omega)]
section
variable {w : World} {v : Value} {a b c : Rat}
theorem sqG_den (x : Bool) : (sqG x).1.den (qE [a, b, c]) = (sqB c.num && sqB (c.den : Int)) := by
  show ((sqT (qv 2).1).den _ && (sqT (qv 2).2).den _) = _
  rw [sqT_den, sqT_den]; rfl
theorem gtz_den {E : Env} {p : IT2} {q : Rat} (h : RepQ E p q) : (BT.lt (.lit 0) (sgt p)).den E = decide (0 < q) := by
  show decide (0 < (sgt p).den E) = _
  rw [sgt_den h, Bool.eq_iff_iff, decide_eq_true_iff, decide_eq_true_iff]
  rcases sgQ_cases q with ⟨k, e⟩ | ⟨k, e⟩ | ⟨k, e⟩ <;> rw [e] <;> constructor <;> intro j <;> first | omega | grind
theorem Rdb_cases (b c : Rat) : Rdb b c = if b = 0 then decide (c = 0) else if 0 < c then !(sqB c.num && sqB (c.den : Int)) else false := by
  have n1 : b.num = 0 ↔ b = 0 := Rat.num_eq_zero
  have n2 : c.num = 0 ↔ c = 0 := Rat.num_eq_zero
  have n3 := num_pos_iff c
  unfold Rdb
  by_cases hb : b = 0
  · rw [if_pos hb]
    subst hb
    show ((true && (c.num == 0)) || (false && _)) = _
    rw [Bool.true_and, Bool.false_and, Bool.or_false, Bool.eq_iff_iff, beq_iff_eq, decide_eq_true_iff, n2]
  · rw [if_neg hb]
    have e : (b.num == 0) = false := by rw [beq_eq_false_iff_ne]; exact fun k => hb (n1.1 k)
    have e2 : (b.num != 0) = true := by rw [bne_iff_ne]; exact fun k => hb (n1.1 k)
    rw [e, e2, Bool.false_and, Bool.false_or, Bool.true_and]
    by_cases hc : 0 < c
    · rw [if_pos hc, decide_eq_true (n3.2 hc), Bool.true_and, sq_test hc]
    · rw [if_neg hc, decide_eq_false (fun k => hc (n3.1 k)), Bool.false_and]
def vaT (b : Bool) : Tree := .ite (zt (qv 1)) (lfB (zt (qv 2))) (.ite (.lt (.lit 0) (sgt (qv 2))) (lfB (.lit b)) (lfB (.lit false)))
def vaR (b : Bool) : Tree := .ite (zt (qv 1)) (lfB (zt (qv 2))) (.ite (zt (qv 2)) (lfB (.lit false)) (.ite (.lt (.lit 0) (sgt (qv 2))) (lfB (.lit b)) (lfB (.lit false))))
theorem vaT_out {β : Nat → Nat} {w' : World} {y : Value} {x : Bool} (hx : (sqB c.num && sqB (c.den : Int)) = !x) (hh : (toAV ((vaT x).pick (qE [a, b, c]))).holds (qE [a, b, c]) β w' y) : y = .bool (Rdb b c) := by
  obtain ⟨ra, rb, rc⟩ := rep3 (a := a) (b := b) (c := c)
  unfold vaT at hh
  rw [ite_pick (zt_den rb), ite_pick (gtz_den rc)] at hh
  rw [Rdb_cases]
  by_cases hb : b = 0
  · rw [decide_eq_true hb, if_pos rfl] at hh
    rw [lfB_out hh, zt_den rc, if_pos hb]
  · rw [decide_eq_false hb, if_neg (by decide)] at hh
    rw [if_neg hb]
    by_cases hc : 0 < c
    · rw [decide_eq_true hc, if_pos rfl] at hh
      rw [lfB_out hh, if_pos hc, hx, Bool.not_not]; rfl
    · rw [decide_eq_false hc, if_neg (by decide)] at hh
      rw [lfB_out hh, if_neg hc]; rfl
theorem vaR_out {β : Nat → Nat} {w' : World} {y : Value} {x : Bool} (hx : (sqB c.num && sqB (c.den : Int)) = !x) (hh : (toAV ((vaR x).pick (qE [a, b, c]))).holds (qE [a, b, c]) β w' y) : y = .bool (Rdb b c) := by
  obtain ⟨ra, rb, rc⟩ := rep3 (a := a) (b := b) (c := c)
  unfold vaR at hh
  rw [ite_pick (zt_den rb), ite_pick (zt_den rc), ite_pick (gtz_den rc)] at hh
  rw [Rdb_cases]
  by_cases hb : b = 0
  · rw [decide_eq_true hb, if_pos rfl] at hh
    rw [lfB_out hh, zt_den rc, if_pos hb]
  · rw [decide_eq_false hb, if_neg (by decide)] at hh
    rw [if_neg hb]
    by_cases h0 : c = 0
    · rw [decide_eq_true h0, if_pos rfl] at hh
      rw [lfB_out hh, if_neg (by rw [h0]; decide)]; rfl
    · rw [decide_eq_false h0, if_neg (by decide)] at hh
      by_cases hc : 0 < c
      · rw [decide_eq_true hc, if_pos rfl] at hh
        rw [lfB_out hh, if_pos hc, hx, Bool.not_not]; rfl
      · rw [decide_eq_false hc, if_neg (by decide)] at hh
        rw [lfB_out hh, if_neg hc]; rfl
theorem sqG_holds {x : Bool} (h : (sqB c.num && sqB (c.den : Int)) = x) : Asm.holds (qE [a, b, c]) [sqG x] := by
  intro p hp
  simp only [List.mem_cons, List.not_mem_nil, or_false] at hp
  subst hp
  rw [sqG_den, h]; rfl
theorem p_valid (h : IsRoot w v a b c) (l : LimR 100 a b c) : Calls Tryz.prog 23 #[v] w fun e w' => e = .returned (.bool (Rdb b c)) ∧ Ext w w' := by
  cases hx : (sqB c.num && sqB (c.den : Int)) with
  | true =>
    refine (walk1 (l := [a, b, c]) (tab := tbV) (x := aRl 0 100) (G := [sqG true]) (T := vaT false) Tryz.func23 (by decide +kernel) (tbV_ok (qE_ok _)) (sqG_holds hx) (by kernel_rfl) (by decide +kernel) rfl w v (fun _ => aRl_holds h l)).mono ?_
    rintro e w' ⟨β, y, rfl, hh, ex⟩
    rw [vaT_out (by rw [hx]; rfl) hh]
    exact ⟨rfl, ex⟩
  | false =>
    refine (walk1 (l := [a, b, c]) (tab := tbV) (x := aRl 0 100) (G := [sqG false]) (T := vaT true) Tryz.func23 (by decide +kernel) (tbV_ok (qE_ok _)) (sqG_holds hx) (by kernel_rfl) (by decide +kernel) rfl w v (fun _ => aRl_holds h l)).mono ?_
    rintro e w' ⟨β, y, rfl, hh, ex⟩
    rw [vaT_out (by rw [hx]; rfl) hh]
    exact ⟨rfl, ex⟩
theorem r_valid (h : IsRoot w v a b c) (l : LimR 100 a b c) : Calls Tryz.prog 24 #[v] w fun e w' => e = .returned (.bool (Rdb b c)) ∧ Ext w w' := by
  cases hx : (sqB c.num && sqB (c.den : Int)) with
  | true =>
    refine (walk1 (l := [a, b, c]) (tab := tbV) (x := aRl 0 100) (G := [sqG true]) (T := vaR false) Tryz.func24 (by decide +kernel) (tbV_ok (qE_ok _)) (sqG_holds hx) (by kernel_rfl) (by decide +kernel) rfl w v (fun _ => aRl_holds h l)).mono ?_
    rintro e w' ⟨β, y, rfl, hh, ex⟩
    rw [vaR_out (by rw [hx]; rfl) hh]
    exact ⟨rfl, ex⟩
  | false =>
    refine (walk1 (l := [a, b, c]) (tab := tbV) (x := aRl 0 100) (G := [sqG false]) (T := vaR true) Tryz.func24 (by decide +kernel) (tbV_ok (qE_ok _)) (sqG_holds hx) (by kernel_rfl) (by decide +kernel) rfl w v (fun _ => aRl_holds h l)).mono ?_
    rintro e w' ⟨β, y, rfl, hh, ex⟩
    rw [vaR_out (by rw [hx]; rfl) hh]
    exact ⟨rfl, ex⟩
end
/-- Valid where the radicand is any struct. -/
def kOr (k l : Con) : Con := fun args G => match k args G with | some r => some r | none => l args G
theorem kOr_ok {P : Program} {E : Env} {f : Nat} {k l : Con} (h1 : ConOK P E f k) (h2 : ConOK P E f l) : ConOK P E f (kOr k l) := by
  refine ⟨?_, ?_, h1.body⟩
  · intro args G r h
    unfold kOr at h
    split at h
    · rename_i r' hr
      injection h with h
      subst h
      exact h1.calls args G _ hr
    · exact h2.calls args G r h
  · intro args G r h
    unfold kOr at h
    split at h
    · rename_i r' hr
      injection h with h
      subst h
      exact h1.nptr args G _ hr
    · exact h2.nptr args G r h
def mE (l : List Rat) (rs : List RI) : Env := { qE l with r := fun i => rs.getD i (false, []) }
theorem mE_ok (l : List Rat) (rs : List RI) : QEnv (mE l rs) := qE_ok l
def kRVF : Con
  | [.val true [.raw i, .raw j]], _ => if i == 0 && j == 1 then some (.val false [.b (.lit false)]) else none
  | _, _ => none
theorem kRVF_ok {l : List Rat} {p q : RI} (hq : okQ p.1 p.2 q.1 q.2 = false) (b1 : p.2.length ≤ 100000) (b2 : q.2.length ≤ 100000) {f : Nat} (hc : ∀ (w : World) (v : Value) (s1 s2 : Bool) (xs1 xs2 : List Nat), RawQ w v s1 xs1 s2 xs2 → xs1.length ≤ 100000 → xs2.length ≤ 100000 → Calls Tryz.prog f #[v] w fun e w' => e = .returned (.bool (okQ s1 xs1 s2 xs2)) ∧ Ext w w')
    (hb : ∃ fn, Tryz.prog.funcs[f]? = some fn ∧ fn.name ≠ "runtime.NumGoroutine" ∧ fn.body.isNone = false) : ConOK Tryz.prog (mE l [p, q]) f kRVF := by
  refine ⟨?_, ?_, hb⟩
  · intro args As r h hG β w vs hv hlen
    unfold kRVF at h
    split at h
    · rename_i i j
      split at h
      · rename_i hij
        rw [Bool.and_eq_true, beq_iff_eq, beq_iff_eq] at hij
        obtain ⟨rfl, rfl⟩ := hij
        injection h with h
        subst h
        obtain ⟨v, rfl, h1⟩ := args1 hv hlen
        refine (hc w v _ _ _ _ (one_raw2 h1) b1 b2).mono ?_
        rintro e w' ⟨rfl, ex⟩
        refine ⟨_, rfl, one_bool.2 ?_, ex⟩
        show Value.bool (okQ p.1 p.2 q.1 q.2) = _
        rw [hq]; rfl
      · cases h
    · cases h
  · intro args As r h x off
    unfold kRVF at h
    split at h
    · split at h
      · injection h with h; subst h; intro e; cases e
      · cases h
    · cases h
noncomputable def tbM : List (Nat × Con) := [(69, kOr kVl kRVF), (49, kOr kVl kRVF)]
theorem tbM_ok {l : List Rat} {p q : RI} (hq : okQ p.1 p.2 q.1 q.2 = false) (b1 : p.2.length ≤ 100000) (b2 : q.2.length ≤ 100000) : TabOK Tryz.prog (mE l [p, q]) tbM :=
  .cons (kOr_ok (kVl_ok (mE_ok _ _) (fun w v s1 s2 xs1 xs2 h l1 l2 => valid_rat_calls w v s1 s2 xs1 xs2 h l1 l2) ⟨_, Tryz.func69, by decide +kernel, by kernel_rfl⟩) (kRVF_ok hq b1 b2 (fun w v s1 s2 xs1 xs2 h l1 l2 => valid_rat_calls w v s1 s2 xs1 xs2 h l1 l2) ⟨_, Tryz.func69, by decide +kernel, by kernel_rfl⟩))
    (.cons (kOr_ok (kVl_ok (mE_ok _ _) (fun w v s1 s2 xs1 xs2 h l1 l2 => rvalid_rat_calls w v s1 s2 xs1 xs2 h l1 l2) ⟨_, Tryz.func49, by decide +kernel, by kernel_rfl⟩) (kRVF_ok hq b1 b2 (fun w v s1 s2 xs1 xs2 h l1 l2 => rvalid_rat_calls w v s1 s2 xs1 xs2 h l1 l2) ⟨_, Tryz.func49, by decide +kernel, by kernel_rfl⟩)) .nil)
def aM : AV := .val true [.int (qv 0).1 4, .int (qv 0).2 4, .int (qv 1).1 4, .int (qv 1).2 4, .raw 0, .raw 1]
def okRv (p3 p4 p5 p6 : RI) : Bool := okQ p5.1 p5.2 p6.1 p6.2 && Rdb (rq p3 p4) (rq p5 p6)
section
variable {w : World} {v : Value} {p1 p2 p3 p4 p5 p6 : RI}
theorem validR_of {f : Nat} {fn : Func} (hf : Tryz.prog.funcs[f]? = some fn) (h4 : fn.results.toList.length ≤ 4) (hT : funE (cR tbM) fn [] [aM] = some (lfB (.lit false))) (hn : 1 ≤ fn.ntmps)
    (hc : ∀ (a b c : Rat), IsRoot w v a b c → LimR 100 a b c → Calls Tryz.prog f #[v] w fun e w' => e = .returned (.bool (Rdb b c)) ∧ Ext w w')
    (h : RawR w v p1 p2 p3 p4 p5 p6) (h1 : smN 4 p1 p2 = true) (h2 : smN 4 p3 p4 = true) (b1 : p5.2.length ≤ 4) (b2 : p6.2.length ≤ 4) :
    Calls Tryz.prog f #[v] w fun e w' => e = .returned (.bool (okRv p3 p4 p5 p6)) ∧ Ext w w' := by
  unfold okRv
  cases hq : okQ p5.1 p5.2 p6.1 p6.2 with
  | true =>
    have h3 : smN 4 p5 p6 = true := by unfold smN; rw [hq, decide_eq_true b1, decide_eq_true b2]; rfl
    obtain ⟨hr, lr⟩ := h.root h1 h2 h3
    exact hc _ _ _ hr (lr.mono (by omega))
  | false =>
    obtain ⟨x, y, z, rfl, k1, k2, k3⟩ := h
    obtain ⟨i1, l1⟩ := smN_rat k1 h1
    obtain ⟨i2, l2⟩ := smN_rat k2 h2
    have ra : RepQ (mE [rq p1 p2, rq p3 p4] [p5, p6]) (qv 0) (rq p1 p2) := rep_v (l := [rq p1 p2, rq p3 p4]) (i := 0)
    have rb : RepQ (mE [rq p1 p2, rq p3 p4] [p5, p6]) (qv 1) (rq p3 p4) := rep_v (l := [rq p1 p2, rq p3 p4]) (i := 1)
    refine (fun_sound mixed (cR_ok (mE_ok [rq p1 p2, rq p3 p4] [p5, p6]) (tbM_ok (l := [rq p1 p2, rq p3 p4]) hq (by omega) (by omega))) no_asm hf h4 hT hn rfl w [_] rfl ?_).mono ?_
    · intro i t ht
      match i, ht with
      | 0, ht =>
        injection ht with ht
        subst ht
        exact ⟨fun _ => 0, _, rfl, x ++ (y ++ z), rfl, (two_chunks ra).2 ⟨x, y ++ z, rfl, ⟨i1, l1⟩, (two_chunks rb).2 ⟨y, z, rfl, ⟨i2, l2⟩, two_raws.2 ⟨z, [], by simp, k3, rfl⟩⟩⟩⟩
    · rintro e w' ⟨β, u, rfl, hh, ex⟩
      rw [lfB_out hh]
      exact ⟨rfl, ex⟩
theorem p_validR (h : RawR w v p1 p2 p3 p4 p5 p6) (h1 : smN 4 p1 p2 = true) (h2 : smN 4 p3 p4 = true) (b1 : p5.2.length ≤ 4) (b2 : p6.2.length ≤ 4) : Calls Tryz.prog 23 #[v] w fun e w' => e = .returned (.bool (okRv p3 p4 p5 p6)) ∧ Ext w w' :=
  validR_of Tryz.func23 (by decide +kernel) (by kernel_rfl) (by decide +kernel) (fun _ _ _ h l => p_valid h l) h h1 h2 b1 b2
theorem r_validR (h : RawR w v p1 p2 p3 p4 p5 p6) (h1 : smN 4 p1 p2 = true) (h2 : smN 4 p3 p4 = true) (b1 : p5.2.length ≤ 4) (b2 : p6.2.length ≤ 4) : Calls Tryz.prog 24 #[v] w fun e w' => e = .returned (.bool (okRv p3 p4 p5 p6)) ∧ Ext w w' :=
  validR_of Tryz.func24 (by decide +kernel) (by kernel_rfl) (by decide +kernel) (fun _ _ _ h l => r_valid h l) h h1 h2 b1 b2
end
/-- Small of a root. -/
def srE (p1 p2 p3 p4 p5 p6 : RI) : Env := ⟨fun _ => 0, fun k => [smN 4 p1 p2, smN 4 p3 p4, smN 4 p5 p6, okRv p3 p4 p5 p6].getD k false, fun i => [p1, p2, p3, p4, p5, p6].getD i (false, []), fun _ => []⟩
def kS4 : Con
  | [.val true [.raw i, .raw j], .val false [.n .i64 (.lit z)]], _ => if (i == 0 && j == 1) || ((i == 2 && j == 3) || (i == 4 && j == 5)) then (if z == 4 then some (.val false [.b (.var (i / 2))]) else none) else none
  | _, _ => none
theorem kS4_ok (p1 p2 p3 p4 p5 p6 : RI) : ConOK Tryz.prog (srE p1 p2 p3 p4 p5 p6) 13 kS4 := by
  refine ⟨?_, ?_, ⟨_, Tryz.func13, by decide +kernel, by kernel_rfl⟩⟩
  · intro args As r h hG β w vs hv hlen
    unfold kS4 at h
    split at h
    · rename_i i j z
      split at h
      · rename_i hij
        split at h
        · rename_i hz
          rw [beq_iff_eq] at hz
          subst hz
          injection h with h
          subst h
          obtain ⟨v, u, rfl, h1, h2⟩ := args2 hv hlen
          have h2' := one_num.1 h2
          subst h2'
          simp only [Bool.or_eq_true, Bool.and_eq_true, beq_iff_eq] at hij
          rcases hij with ⟨rfl, rfl⟩ | ⟨rfl, rfl⟩ | ⟨rfl, rfl⟩
          · refine (rsmall4_calls w v p1 p2 (one_raw2 h1)).mono ?_
            rintro e w' ⟨rfl, ex⟩
            exact ⟨_, rfl, one_bool.2 rfl, ex⟩
          · refine (rsmall4_calls w v p3 p4 (one_raw2 h1)).mono ?_
            rintro e w' ⟨rfl, ex⟩
            exact ⟨_, rfl, one_bool.2 rfl, ex⟩
          · refine (rsmall4_calls w v p5 p6 (one_raw2 h1)).mono ?_
            rintro e w' ⟨rfl, ex⟩
            exact ⟨_, rfl, one_bool.2 rfl, ex⟩
        · cases h
      · cases h
    · cases h
  · intro args As r h x off
    unfold kS4 at h
    split at h
    · split at h
      · split at h
        · injection h with h; subst h; intro e; cases e
        · cases h
      · cases h
    · cases h
theorem smN_len {p q : RI} (h : smN 4 p q = true) : p.2.length ≤ 4 ∧ q.2.length ≤ 4 ∧ okQ p.1 p.2 q.1 q.2 = true := by
  unfold smN at h
  simp only [Bool.and_eq_true, decide_eq_true_iff] at h
  exact ⟨h.1.1, h.1.2, h.2⟩
def kV6 (g : Asm → Bool) : Con
  | [.val true [.raw i, .raw i1, .raw i2, .raw i3, .raw i4, .raw i5]], G => if (i == 0 && (i1 == 1 && (i2 == 2 && (i3 == 3 && (i4 == 4 && i5 == 5))))) && ((G.find (.var 0) == some true && G.find (.var 1) == some true) && g G) then some (.val false [.b (.var 3)]) else none
  | _, _ => none
theorem kV6_ok {p1 p2 p3 p4 p5 p6 : RI} {g : Asm → Bool} (hg : ∀ G, g G = true → G.holds (srE p1 p2 p3 p4 p5 p6) → p5.2.length ≤ 4 ∧ p6.2.length ≤ 4) {f : Nat}
    (hc : ∀ (w : World) (v : Value), RawR w v p1 p2 p3 p4 p5 p6 → smN 4 p1 p2 = true → smN 4 p3 p4 = true → p5.2.length ≤ 4 → p6.2.length ≤ 4 → Calls Tryz.prog f #[v] w fun e w' => e = .returned (.bool (okRv p3 p4 p5 p6)) ∧ Ext w w')
    (hb : ∃ fn, Tryz.prog.funcs[f]? = some fn ∧ fn.name ≠ "runtime.NumGoroutine" ∧ fn.body.isNone = false) : ConOK Tryz.prog (srE p1 p2 p3 p4 p5 p6) f (kV6 g) := by
  refine ⟨?_, ?_, hb⟩
  · intro args G r h hG β w vs hv hlen
    unfold kV6 at h
    split at h
    · split at h
      · rename_i hcd
        simp only [Bool.and_eq_true, beq_iff_eq] at hcd
        obtain ⟨⟨rfl, rfl, rfl, rfl, rfl, rfl⟩, ⟨g0, g1⟩, g2⟩ := hcd
        injection h with h
        subst h
        obtain ⟨v, rfl, h1⟩ := args1 hv hlen
        have hr := (one_rwC (i := 0)).1 h1
        obtain ⟨b1, b2⟩ := hg G g2 hG
        refine (hc w v hr (Asm.find_spec hG g0) (Asm.find_spec hG g1) b1 b2).mono ?_
        rintro e w' ⟨rfl, ex⟩
        exact ⟨_, rfl, one_bool.2 rfl, ex⟩
      · cases h
    · cases h
  · intro args G r h x off
    unfold kV6 at h
    split at h
    · split at h
      · injection h with h; subst h; intro e; cases e
      · cases h
    · cases h
def gS (G : Asm) : Bool := G.find (.var 2) == some true
theorem smallR_calls (w : World) (v : Value) (p1 p2 p3 p4 p5 p6 : RI) (h : RawR w v p1 p2 p3 p4 p5 p6) :
    Calls Tryz.prog 70 #[v, .int .i64 4] w fun e w' => e = .returned (.bool (smR p1 p2 p3 p4 p5 p6)) ∧ Ext w w' := by
  refine (fun_sound (C := cfgOf [(13, kS4), (24, kV6 gS)]) (E := srE p1 p2 p3 p4 p5 p6) (args := [.val true (rwC 0), .val false [.n .i64 (.lit 4)]])
    (T := .ite (.var 0) (.ite (.var 1) (.ite (.var 2) (lfB (.var 3)) (lfB (.lit false))) (lfB (.lit false))) (lfB (.lit false)))
    mixed (cfg_ok (.cons (kS4_ok _ _ _ _ _ _) (.cons (kV6_ok (fun G hg hG => by
      have := Asm.find_spec hG (by simpa [gS] using hg)
      obtain ⟨b1, b2, _⟩ := smN_len this
      exact ⟨b1, b2⟩) (fun w v h h1 h2 b1 b2 => r_validR h h1 h2 b1 b2) ⟨_, Tryz.func24, by decide +kernel, by kernel_rfl⟩) .nil))) no_asm Tryz.func70 (by decide +kernel) (by kernel_rfl) (by decide +kernel) rfl w [v, .int .i64 4] rfl ?_).mono ?_
  · intro i x hx
    match i, hx with
    | 0, hx => injection hx with hx; subst hx; exact ⟨fun _ => 0, v, rfl, (one_rwC (i := 0)).2 h⟩
    | 1, hx => injection hx with hx; subst hx; exact ⟨fun _ => 0, _, rfl, one_num.2 rfl⟩
  · rintro e w' ⟨β, u, rfl, hh, ex⟩
    have t0 : (BT.var 0).den (srE p1 p2 p3 p4 p5 p6) = smN 4 p1 p2 := rfl
    have t1 : (BT.var 1).den (srE p1 p2 p3 p4 p5 p6) = smN 4 p3 p4 := rfl
    have t2 : (BT.var 2).den (srE p1 p2 p3 p4 p5 p6) = smN 4 p5 p6 := rfl
    have t3 : (BT.var 3).den (srE p1 p2 p3 p4 p5 p6) = okRv p3 p4 p5 p6 := rfl
    rw [ite_pick t0, ite_pick t1, ite_pick t2] at hh
    unfold smR
    cases h0 : smN 4 p1 p2 <;> rw [h0] at hh
    · rw [lfB_out hh]; exact ⟨rfl, ex⟩
    · cases h1 : smN 4 p3 p4 <;> rw [h1] at hh
      · rw [lfB_out hh]; exact ⟨rfl, ex⟩
      · cases h2 : smN 4 p5 p6 <;> rw [h2] at hh
        · rw [lfB_out hh]; exact ⟨rfl, ex⟩
        · rw [lfB_out hh, t3]
          unfold okRv
          rw [(smN_len h2).2.2]
          exact ⟨rfl, ex⟩
end Go.Proofs.YtdblkeeicmncfaaGreat
end

/- ---- Rtl ---- -/
section
/-
  A configuration for the laws of roots: awake, small, and the table.
-/
set_option maxRecDepth 100000
namespace Go.Proofs.YtdblkeeicmncfaaGreat
open Go.RowKit

/-- awake, taken at its text. -/
noncomputable def aw1 : List (Nat × Func) := [(14, Tryz.f14), (15, Tryz.f15), (30, Tryz.f30), (39, Tryz.f39), (26, Tryz.f26), (40, Tryz.f40), (17, Tryz.f17), (57, Tryz.f57)]
noncomputable def aw2 : List (Nat × Func) := [(56, Tryz.f56), (54, Tryz.f54), (37, Tryz.f37)]
theorem aw1_ok : InlOK Tryz.prog aw1 :=
  .cons Tryz.func14 (by decide +kernel) (by kernel_rfl) <| .cons Tryz.func15 (by decide +kernel) (by kernel_rfl) <| .cons Tryz.func30 (by decide +kernel) (by kernel_rfl) <| .cons Tryz.func39 (by decide +kernel) (by kernel_rfl) <| .cons Tryz.func26 (by decide +kernel) (by kernel_rfl) <|
  .cons Tryz.func40 (by decide +kernel) (by kernel_rfl) <| .cons Tryz.func17 (by decide +kernel) (by kernel_rfl) <| .cons Tryz.func57 (by decide +kernel) (by kernel_rfl) .nil
theorem aw2_ok : InlOK Tryz.prog aw2 :=
  .cons Tryz.func56 (by decide +kernel) (by kernel_rfl) <| .cons Tryz.func54 (by decide +kernel) (by kernel_rfl) <| .cons Tryz.func37 (by decide +kernel) (by kernel_rfl) .nil
noncomputable def tbA : List (Nat × Con) := [(59, kSqQ), (65, kSqQ), (81, kDv)]
theorem tbA_ok {E : Env} (hE : QEnv E) : TabOK Tryz.prog E tbA :=
  .cons (kSqQ_ok (fun w v n d h l m => sqrtQ_calls w v n d h l m) ⟨_, Tryz.func59, by decide +kernel, by kernel_rfl⟩)
    (.cons (kSqQ_ok (fun w v n d h l m => rsqrtQ_calls w v n d h l m) ⟨_, Tryz.func65, by decide +kernel, by kernel_rfl⟩)
      (.cons (kDv_ok hE (fun w v1 v2 a b h1 h2 l1 l2 => div_rat_calls w v1 v2 a b h1 h2 l1 l2) ⟨_, Tryz.func81, by decide +kernel, by kernel_rfl⟩) .nil))
noncomputable def cA1 : Cfg := cfgI (cR tbA) (cR tbA) aw1
noncomputable def cA2 : Cfg := cfgI cA1 cA1 aw2
theorem cA2_ok {E : Env} (hE : QEnv E) : CfgOK Tryz.prog E cA2 := cfgI_ok mixed (cfgI_ok mixed (cR_ok hE (tbA_ok hE)) (cR_ok hE (tbA_ok hE)) (fun _ => trivial) aw1_ok) (cfgI_ok mixed (cR_ok hE (tbA_ok hE)) (cR_ok hE (tbA_ok hE)) (fun _ => trivial) aw1_ok) (fun _ => trivial) aw2_ok
theorem awakeR_calls (w : World) : Calls Tryz.prog 12 #[] w fun e w' => e = .returned (.bool true) ∧ Ext w w' := by
  refine (fun_sound (C := cA2) (E := qE []) (args := []) (T := lfB (.lit true)) mixed (cA2_ok (qE_ok _)) no_asm Tryz.func12 (by decide +kernel) (by kernel_rfl) (by decide +kernel) rfl w [] rfl (fun i x hx => by simp at hx)).mono ?_
  rintro e w' ⟨β, u, rfl, hh, ex⟩
  rw [lfB_out hh]
  exact ⟨rfl, ex⟩
def kTru : Con
  | [], _ => some (.val false [.b (.lit true)])
  | _, _ => none
theorem kAw_ok {E : Env} : ConOK Tryz.prog E 12 kTru := by
  refine ⟨?_, ?_, ⟨_, Tryz.func12, by decide +kernel, by kernel_rfl⟩⟩
  · intro args G r h hG β w vs hv hlen
    unfold kTru at h
    split at h
    · injection h with h
      subst h
      obtain rfl : vs = [] := by simpa using hlen
      refine (awakeR_calls w).mono ?_
      rintro e w' ⟨rfl, ex⟩
      exact ⟨_, rfl, one_bool.2 rfl, ex⟩
    · cases h
  · intro args G r h x off
    unfold kTru at h
    split at h
    · injection h with h; subst h; intro e; cases e
    · cases h
/-- Equality of roots, of any numbers. -/
def b12 (i l : Nat) : AV := .val true [.int (.var i) l, .int (.var (i + 1)) l, .int (.var (i + 2)) l, .int (.var (i + 3)) l, .int (.var (i + 4)) l, .int (.var (i + 5)) l]
theorem int_conv {E E' : Env} {w : World} {s t : IT} {l m : Nat} {vs : List Value} (h : (Chunk.int s l).holds E w vs) (e : t.den E' = s.den E) (k : l ≤ m) : (Chunk.int t m).holds E' w vs := by
  obtain ⟨x, y, rfl, h1, h2⟩ := h
  exact ⟨x, y, rfl, by rw [e]; exact h1, by rw [e]; exact h2.mono k⟩
def smT6 (x1 x2 x3 x4 x5 x6 y1 y2 y3 y4 y5 y6 : IT) : BT := .and (.and (.eq x1 y1) (.eq x2 y2)) (.and (.and (.eq x3 y3) (.eq x4 y4)) (.and (.eq x5 y5) (.eq x6 y6)))
def kRSm : Con
  | [.val true [.int x1 l1, .int x2 l2, .int x3 l3, .int x4 l4, .int x5 l5, .int x6 l6], .val true [.int y1 m1, .int y2 m2, .int y3 m3, .int y4 m4, .int y5 m5, .int y6 m6]], _ =>
    if (decide (l1 ≤ 100000) && (decide (l2 ≤ 100000) && (decide (l3 ≤ 100000) && (decide (l4 ≤ 100000) && (decide (l5 ≤ 100000) && decide (l6 ≤ 100000)))))) && (decide (m1 ≤ 100000) && (decide (m2 ≤ 100000) && (decide (m3 ≤ 100000) && (decide (m4 ≤ 100000) && (decide (m5 ≤ 100000) && decide (m6 ≤ 100000)))))) then
      some (.val false [.b (smT6 x1 x2 x3 x4 x5 x6 y1 y2 y3 y4 y5 y6)]) else none
  | _, _ => none
theorem kRSm_ok {E : Env} : ConOK Tryz.prog E 17 kRSm := by
  refine ⟨?_, ?_, ⟨_, Tryz.func17, by decide +kernel, by kernel_rfl⟩⟩
  · intro args G r h hG β w vs hv hlen
    unfold kRSm at h
    split at h
    · rename_i x1 l1 x2 l2 x3 l3 x4 l4 x5 l5 x6 l6 y1 m1 y2 m2 y3 m3 y4 m4 y5 m5 y6 m6
      split at h
      · rename_i hcd
        simp only [Bool.and_eq_true, decide_eq_true_iff] at hcd
        obtain ⟨⟨a1, a2, a3, a4, a5, a6⟩, b1, b2, b3, b4, b5, b6⟩ := hcd
        injection h with h
        subst h
        obtain ⟨v, u, rfl, h1, h2⟩ := args2 hv hlen
        obtain ⟨E', hE'⟩ : ∃ E', E' = zE [x1.den E, x2.den E, x3.den E, x4.den E, x5.den E, x6.den E, y1.den E, y2.den E, y3.den E, y4.den E, y5.den E, y6.den E] := ⟨_, rfl⟩
        have k1 : (b12 0 100000).holds E' β w v := by
          obtain ⟨us, rfl, u0, r0, rfl, c0, u1, r1, rfl, c1, u2, r2, rfl, c2, u3, r3, rfl, c3, u4, r4, rfl, c4, u5, r5, rfl, c5, hn⟩ := h1
          subst hE'
          exact ⟨_, rfl, u0, _, rfl, int_conv c0 rfl a1, u1, _, rfl, int_conv c1 rfl a2, u2, _, rfl, int_conv c2 rfl a3, u3, _, rfl, int_conv c3 rfl a4, u4, _, rfl, int_conv c4 rfl a5, u5, _, rfl, int_conv c5 rfl a6, hn⟩
        have k2 : (b12 6 100000).holds E' β w u := by
          obtain ⟨us, rfl, u0, r0, rfl, c0, u1, r1, rfl, c1, u2, r2, rfl, c2, u3, r3, rfl, c3, u4, r4, rfl, c4, u5, r5, rfl, c5, hn⟩ := h2
          subst hE'
          exact ⟨_, rfl, u0, _, rfl, int_conv c0 rfl b1, u1, _, rfl, int_conv c1 rfl b2, u2, _, rfl, int_conv c2 rfl b3, u3, _, rfl, int_conv c3 rfl b4, u4, _, rfl, int_conv c4 rfl b5, u5, _, rfl, int_conv c5 rfl b6, hn⟩
        refine (fun_sound (C := cfgOf [(21, kSame)]) (E := E') (args := [b12 0 100000, b12 6 100000]) (G := [])
          (T := .ite (.and (.eq (.var 0) (.var 6)) (.eq (.var 1) (.var 7))) (.ite (.and (.eq (.var 2) (.var 8)) (.eq (.var 3) (.var 9))) (lfB (.and (.eq (.var 4) (.var 10)) (.eq (.var 5) (.var 11)))) (lfB (.lit false))) (lfB (.lit false)))
          mixed (cfg_ok (.cons kSame_ok .nil)) no_asm Tryz.func17 (by decide +kernel) (by kernel_rfl) (by decide +kernel) rfl w [v, u] rfl ?_).mono ?_
        · intro i x hx
          match i, hx with
          | 0, hx => injection hx with hx; subst hx; exact ⟨β, v, rfl, k1⟩
          | 1, hx => injection hx with hx; subst hx; exact ⟨β, u, rfl, k2⟩
        · rintro e w' ⟨β', y, rfl, hh, ex⟩
          refine ⟨_, rfl, one_bool.2 ?_, ex⟩
          subst hE'
          simp only [Tree.pick] at hh
          show y = .bool ((x1.den E == y1.den E && x2.den E == y2.den E) && ((x3.den E == y3.den E && x4.den E == y4.den E) && (x5.den E == y5.den E && x6.den E == y6.den E)))
          have e0 : (BT.and (.eq (.var 0) (.var 6)) (.eq (.var 1) (.var 7))).den (zE [x1.den E, x2.den E, x3.den E, x4.den E, x5.den E, x6.den E, y1.den E, y2.den E, y3.den E, y4.den E, y5.den E, y6.den E]) = (x1.den E == y1.den E && x2.den E == y2.den E) := rfl
          have e1 : (BT.and (.eq (.var 2) (.var 8)) (.eq (.var 3) (.var 9))).den (zE [x1.den E, x2.den E, x3.den E, x4.den E, x5.den E, x6.den E, y1.den E, y2.den E, y3.den E, y4.den E, y5.den E, y6.den E]) = (x3.den E == y3.den E && x4.den E == y4.den E) := rfl
          rw [e0, e1] at hh
          cases h0 : (x1.den E == y1.den E && x2.den E == y2.den E) <;> rw [h0] at hh
          · exact lfB_out hh
          · cases h1 : (x3.den E == y3.den E && x4.den E == y4.den E) <;> rw [h1] at hh
            · exact lfB_out hh
            · exact lfB_out hh
      · cases h
    · cases h
  · intro args G r h x off
    unfold kRSm at h
    split at h
    · split at h
      · injection h with h; subst h; intro e; cases e
      · cases h
    · cases h
/-- A helper that takes a row, as an oracle tells. -/
def cfgS (f0 : Nat) (sm : List Chunk → Nat → Option Bool) (C : Cfg) : Cfg :=
  { C with calls := fun f args M G => if f = f0 then (match args, M with
      | [.ptr _ off], [some cs] => (sm cs off).map fun c => .val false [.b (.lit c)]
      | _, _ => none) else C.calls f args M G }
def RowSm (E : Env) (f0 : Nat) (sm : List Chunk → Nat → Option Bool) : Prop := ∀ cs off c, sm cs off = some c → ∀ (w : World) (b : Nat), VarAt E w b cs → Calls Tryz.prog f0 #[pv b off] w fun e w' => e = .returned (.bool c) ∧ Ext w w'
theorem cfgS_ok {E : Env} {f0 : Nat} {sm : List Chunk → Nat → Option Bool} {C : Cfg} (h : CfgOK Tryz.prog E C) (hs : RowSm E f0 sm) (hb : ∃ fn, Tryz.prog.funcs[f0]? = some fn ∧ fn.name ≠ "runtime.NumGoroutine" ∧ fn.body.isNone = false) : CfgOK Tryz.prog E (cfgS f0 sm C) := by
  refine ⟨h.zero, h.ag, h.fld, h.flds, h.bool, h.row, h.arr, ?_, ?_, ?_, h.slc, h.strT, h.cnv, h.apd⟩
  · intro f args M G r hr hG β w vs hwk hv hlen hm
    simp only [cfgS] at hr
    split at hr
    · rename_i hf
      subst hf
      split at hr
      · rename_i x off cs
        obtain ⟨c, hc, rfl⟩ := Option.map_eq_some_iff.1 hr
        obtain ⟨v, rfl, h1⟩ := args1 hv hlen
        have h1' : v = pv (β x) off := h1
        subst h1'
        refine (hs cs off c hc w (β x) (hm 0 x off cs rfl rfl)).mono ?_
        rintro e w' ⟨rfl, ex⟩
        exact ⟨_, rfl, one_bool.2 rfl, ex⟩
      · cases hr
    · exact h.calls f args M G r hr hG β w vs hwk hv hlen hm
  · intro f args M G r hr x off
    simp only [cfgS] at hr
    split at hr
    · split at hr
      · obtain ⟨c, hc, rfl⟩ := Option.map_eq_some_iff.1 hr
        intro e; cases e
      · cases hr
    · exact h.nptr f args M G r hr x off
  · intro f args M G r hr
    simp only [cfgS] at hr
    split at hr
    · rename_i hf
      subst hf
      exact hb
    · exact h.body f args M G r hr
/-- small of rows of roots. -/
def roE (l : List RI) : Env := ⟨fun _ => 0, fun q => smR (l.getD (6 * q) (false, [])) (l.getD (6 * q + 1) (false, [])) (l.getD (6 * q + 2) (false, [])) (l.getD (6 * q + 3) (false, [])) (l.getD (6 * q + 4) (false, [])) (l.getD (6 * q + 5) (false, [])), fun i => l.getD i (false, []), fun _ => []⟩
def kSmRw : Con
  | [.val true [.raw i, .raw i1, .raw i2, .raw i3, .raw i4, .raw i5], .val false [.n .i64 (.lit z)]], _ => if (i % 6 == 0 && (i1 == i + 1 && (i2 == i + 2 && (i3 == i + 3 && (i4 == i + 4 && i5 == i + 5))))) && z == 4 then some (.val false [.b (.var (i / 6))]) else none
  | _, _ => none
theorem kSmRw_ok (l : List RI) : ConOK Tryz.prog (roE l) 70 kSmRw := by
  refine ⟨?_, ?_, ⟨_, Tryz.func70, by decide +kernel, by kernel_rfl⟩⟩
  · intro args G r h hG β w vs hv hlen
    unfold kSmRw at h
    split at h
    · rename_i i i1 i2 i3 i4 i5 z
      split at h
      · rename_i hcd
        simp only [Bool.and_eq_true, beq_iff_eq] at hcd
        obtain ⟨⟨hi, rfl, rfl, rfl, rfl, rfl⟩, rfl⟩ := hcd
        injection h with h
        subst h
        obtain ⟨v, u, rfl, h1, h2⟩ := args2 hv hlen
        have h2' := one_num.1 h2
        subst h2'
        have hr := (one_rwC (i := i)).1 h1
        refine (smallR_calls w v _ _ _ _ _ _ hr).mono ?_
        rintro e w' ⟨rfl, ex⟩
        refine ⟨_, rfl, one_bool.2 ?_, ex⟩
        show _ = Value.bool ((roE l).b (i / 6))
        unfold roE
        simp only [show 6 * (i / 6) = i by omega]
      · cases h
    · cases h
  · intro args G r h x off
    unfold kSmRw at h
    split at h
    · split at h
      · injection h with h; subst h; intro e; cases e
      · cases h
    · cases h
def rowR : Nat → List Chunk
  | 0 => []
  | n + 1 => rowR n ++ rwC (6 * n)
theorem smallR_row {l : List RI} {n : Nat} (hT : funR (cfgOf [(70, kSmRw)]) Tryz.f25 [] (rowR n) (big + n) = some (tSm 0 n)) (h0 : sizes (rowR n) ≠ 0) (w : World) (b : Nat) (h : VarAt (roE l) w b (rowR n)) :
    Calls Tryz.prog 25 #[pv b (big + n)] w fun e w' => ∃ c, e = .returned (.bool c) ∧ (c = true ↔ ∀ i, i < n → (roE l).b i = true) ∧ Ext w w' := by
  refine (row_sound mixed (cfg_ok (.cons (kSmRw_ok l) .nil)) no_asm Tryz.func25 (by decide +kernel) hT (by decide +kernel) w b h h0).mono ?_
  rintro e w' ⟨β, v, rfl, hh, ex⟩
  obtain ⟨c, h1, h2⟩ := tSm_pick (E := roE l) n 0
  rw [h1] at hh
  have := one_bool.1 hh
  subst this
  refine ⟨c, rfl, ?_, ex⟩
  rw [h2]
  constructor
  · intro h i hi; have := h i hi; rwa [Nat.zero_add] at this
  · intro h i hi; rw [Nat.zero_add]; exact h i hi
theorem smallR_row1 {l : List RI} (w : World) (b : Nat) (h : VarAt (roE l) w b (rowR 1)) : Calls Tryz.prog 25 #[pv b (big + 1)] w fun e w' => ∃ c, e = .returned (.bool c) ∧ (c = true ↔ ∀ i, i < 1 → (roE l).b i = true) ∧ Ext w w' := smallR_row (n := 1) (by kernel_rfl) (by decide) w b h
theorem smallR_row2 {l : List RI} (w : World) (b : Nat) (h : VarAt (roE l) w b (rowR 2)) : Calls Tryz.prog 25 #[pv b (big + 2)] w fun e w' => ∃ c, e = .returned (.bool c) ∧ (c = true ↔ ∀ i, i < 2 → (roE l).b i = true) ∧ Ext w w' := smallR_row (n := 2) (by kernel_rfl) (by decide) w b h
end Go.Proofs.YtdblkeeicmncfaaGreat
end

/- ---- Rtm ---- -/
section
/-
  The laws of roots: what they share.
-/
set_option maxRecDepth 100000
namespace Go.Proofs.YtdblkeeicmncfaaGreat
open Go.RowKit

noncomputable def tabL : List (Nat × Con) := [(12, kTru), (28, kRNg true), (29, kRNg false), (30, kRSc false), (31, kRSc true),
  (33, kRAd false), (34, kRAd true), (35, kRMu false), (36, kRMu true), (37, kRIv), (38, kRIv),
  (26, kRSg), (27, kRSg), (40, kRFl), (42, kRFl), (17, kRSm), (49, kVl)]
theorem tabL_ok {E : Env} (hE : QEnv E) : TabOK Tryz.prog E tabL :=
  .cons kAw_ok <|
  .cons (kRNg_ok hE (fun _ _ _ _ _ R h l => p_neg (R rfl) h l) ⟨_, Tryz.func28, by decide +kernel, by kernel_rfl⟩) <|
  .cons (kRNg_ok hE (fun _ _ _ _ _ _ h l => r_neg h l) ⟨_, Tryz.func29, by decide +kernel, by kernel_rfl⟩) <|
  .cons (kRSc_ok hE (fun _ _ _ _ _ _ _ _ h hu l lk => p_scale h hu l lk) ⟨_, Tryz.func30, by decide +kernel, by kernel_rfl⟩) <|
  .cons (kRSc_ok hE (fun _ _ _ _ _ _ _ R h hu l lk => r_scale (R rfl) h hu l lk) ⟨_, Tryz.func31, by decide +kernel, by kernel_rfl⟩) <|
  .cons (kRAd_ok hE (fun _ _ _ _ _ _ _ _ _ _ _ h hu l l' => p_add h hu l l') ⟨_, Tryz.func33, by decide +kernel, by kernel_rfl⟩) <|
  .cons (kRAd_ok hE (fun _ _ _ _ _ _ _ _ _ R R' h hu l l' => r_add (R rfl) (R' rfl) h hu l l') ⟨_, Tryz.func34, by decide +kernel, by kernel_rfl⟩) <|
  .cons (kRMu_ok hE (fun _ _ _ _ _ _ _ _ _ _ _ h hu l l' => p_mul h hu l l') ⟨_, Tryz.func35, by decide +kernel, by kernel_rfl⟩) <|
  .cons (kRMu_ok hE (fun _ _ _ _ _ _ _ _ _ R R' h hu l l' => r_mul (R rfl) (R' rfl) h hu l l') ⟨_, Tryz.func36, by decide +kernel, by kernel_rfl⟩) <|
  .cons (kRIv_ok hE (fun _ _ _ _ _ R h l => p_inv R h l) ⟨_, Tryz.func37, by decide +kernel, by kernel_rfl⟩) <|
  .cons (kRIv_ok hE (fun _ _ _ _ _ R h l => r_inv R h l) ⟨_, Tryz.func38, by decide +kernel, by kernel_rfl⟩) <|
  .cons (kRSg_ok hE (fun _ _ _ _ _ R h l => p_sign R h l) ⟨_, Tryz.func26, by decide +kernel, by kernel_rfl⟩) <|
  .cons (kRSg_ok hE (fun _ _ _ _ _ R h l => r_sign R h l) ⟨_, Tryz.func27, by decide +kernel, by kernel_rfl⟩) <|
  .cons (kRFl_ok hE (fun _ _ _ _ _ R h l => p_floor4 R h l) (fun _ _ _ _ _ R h l => p_floor50 R h l) (fun _ _ _ _ _ R h l => p_floor R h l) ⟨_, Tryz.func40, by decide +kernel, by kernel_rfl⟩) <|
  .cons (kRFl_ok hE (fun _ _ _ _ _ R h l => r_floor4 R h l) (fun _ _ _ _ _ R h l => r_floor50 R h l) (fun _ _ _ _ _ R h l => r_floor R h l) ⟨_, Tryz.func42, by decide +kernel, by kernel_rfl⟩) <|
  .cons kRSm_ok <|
  .cons (kVl_ok hE (fun w v s1 s2 xs1 xs2 h l1 l2 => rvalid_rat_calls w v s1 s2 xs1 xs2 h l1 l2) ⟨_, Tryz.func49, by decide +kernel, by kernel_rfl⟩) .nil
noncomputable def lw1 : List (Nat × Func) := [(16, Tryz.f16), (100, Tryz.f100), (39, Tryz.f39), (20, Tryz.f20), (22, Tryz.f22), (14, Tryz.f14), (15, Tryz.f15)]
noncomputable def lw2 : List (Nat × Func) := [(45, Tryz.f45), (54, Tryz.f54)]
theorem lw1_ok : InlOK Tryz.prog lw1 :=
  .cons Tryz.func16 (by decide +kernel) (by kernel_rfl) <| .cons Tryz.func100 (by decide +kernel) (by kernel_rfl) <| .cons Tryz.func39 (by decide +kernel) (by kernel_rfl) <| .cons Tryz.func20 (by decide +kernel) (by kernel_rfl) <|
  .cons Tryz.func22 (by decide +kernel) (by kernel_rfl) <| .cons Tryz.func14 (by decide +kernel) (by kernel_rfl) <| .cons Tryz.func15 (by decide +kernel) (by kernel_rfl) .nil
theorem lw2_ok : InlOK Tryz.prog lw2 := .cons Tryz.func45 (by decide +kernel) (by kernel_rfl) <| .cons Tryz.func54 (by decide +kernel) (by kernel_rfl) .nil
noncomputable def cL1 (tab : List (Nat × Con)) : Cfg := cfgI (cR (tab ++ tabL)) (cR (tab ++ tabL)) lw1
noncomputable def cL (tab : List (Nat × Con)) (sm : List Chunk → Nat → Option Bool) : Cfg := cfgS 25 sm (cfgI (cL1 tab) (cL1 tab) lw2)
theorem cL1_ok {E : Env} (hE : QEnv E) {tab : List (Nat × Con)} (h : TabOK Tryz.prog E tab) : CfgOK Tryz.prog E (cL1 tab) := cfgI_ok mixed (cR_ok hE (TabOK.app h (tabL_ok hE))) (cR_ok hE (TabOK.app h (tabL_ok hE))) (fun _ => trivial) lw1_ok
theorem cL_ok {E : Env} (hE : QEnv E) {tab : List (Nat × Con)} (h : TabOK Tryz.prog E tab) {sm : List Chunk → Nat → Option Bool} (hs : RowSm E 25 sm) : CfgOK Tryz.prog E (cL tab sm) :=
  cfgS_ok (cfgI_ok mixed (cL1_ok hE h) (cL1_ok hE h) (fun _ => trivial) lw2_ok) hs ⟨_, Tryz.func25, by decide +kernel, by kernel_rfl⟩
/-- Rows of small roots, and of any. -/
def isV4 : Nat → List Chunk → Bool
  | _, [] => true
  | i, .int (.var j) l :: cs => (j == i && l == 4) && isV4 (i + 1) cs
  | _, _ => false
theorem isV4_spec : ∀ {cs : List Chunk} {i : Nat}, isV4 i cs = true → cs = (List.range cs.length).map fun k => .int (.var (i + k)) 4
  | [], _, _ => rfl
  | .int (.var j) l :: cs, i, h => by
    simp only [isV4, Bool.and_eq_true, beq_iff_eq] at h
    obtain ⟨⟨rfl, rfl⟩, h⟩ := h
    have := isV4_spec h
    rw [List.length_cons, List.range_succ_eq_map, List.map_cons, List.map_map, Nat.add_zero]
    congr 1
    refine Eq.trans this (List.map_congr_left fun k _ => ?_)
    show Chunk.int _ _ = Chunk.int _ _
    rw [show j + 1 + k = j + (k + 1) by omega]
  | .int (.lit _) _ :: _, _, h | .int (.rlen _) _ :: _, _, h | .int (.slen _) _ :: _, _, h | .int (.a1 _ _) _ :: _, _, h | .int (.a2 _ _ _) _ :: _, _, h | .int (.a4 _ _ _ _ _) _ :: _, _, h => by cases h
  | .b _ :: _, _, h | .n _ _ :: _, _, h | .raw _ :: _, _, h | .mag _ _ :: _, _, h | .rmag _ :: _, _, h | .fn _ :: _, _, h | .nilSlice :: _, _, h | .str _ _ :: _, _, h => by cases h
def smRT (n : Nat) (cs : List Chunk) (off : Nat) : Option Bool := if isV4 0 cs && (cs.length == 6 * n && off == big + n) then some true else none
def smRF (n : Nat) (cs : List Chunk) (off : Nat) : Option Bool := if isRaw 0 cs && (cs.length == 6 * n && off == big + n) then some false else none
def rawsOf (a b c : Rat) : List RI := rawOf a ++ (rawOf b ++ rawOf c)
theorem smN_rawOf {w : World} {v : Value} {q : Rat} (h : IsRat w v q) (l : LimQ 4 q) : smN 4 (decide (q.num < 0), limbs q.num.natAbs) (decide ((q.den : Int) < 0), limbs (q.den : Int).natAbs) = true := by
  unfold smN
  have l1 : (limbs q.num.natAbs).length ≤ 4 := l.1
  have l2 : (limbs (q.den : Int).natAbs).length ≤ 4 := l.2
  rw [(rat_raw h).2, decide_eq_true l1, decide_eq_true l2]
  rfl
theorem rq_rawOf (q : Rat) : rq (decide (q.num < 0), limbs q.num.natAbs) (decide ((q.den : Int) < 0), limbs (q.den : Int).natAbs) = q := by
  have e3 : sgn (decide (q.num < 0)) (val (limbs q.num.natAbs)) = q.num := by rw [val_limbs]; exact sgn_self q.num
  have e4 : sgn (decide ((q.den : Int) < 0)) (val (limbs (q.den : Int).natAbs)) = (q.den : Int) := by rw [val_limbs]; exact sgn_self (q.den : Int)
  show Rat.divInt _ _ = _
  rw [e3, e4]
  exact Rat.num_divInt_den q
/-- A small root. -/
structure SmRt (w : World) (v : Value) (a b c : Rat) : Prop where
  is : IsRoot w v a b c
  lim : LimR 4 a b c
  rd : Rd b c
theorem SmRt.sm {w : World} {v : Value} {a b c : Rat} (h : SmRt w v a b c) {l : List RI} {k : Nat} (e : ∀ i, i < 6 → l.getD (6 * k + i) (false, []) = (rawsOf a b c).getD i (false, [])) : (roE l).b k = true := by
  obtain ⟨⟨x, y, z, rfl, h1, h2, h3⟩, ⟨l1, l2, l3⟩, R⟩ := h
  show smR _ _ _ _ _ _ = true
  have e0 := e 0 (by omega)
  have e1 := e 1 (by omega)
  have e2 := e 2 (by omega)
  have e3 := e 3 (by omega)
  have e4 := e 4 (by omega)
  have e5 := e 5 (by omega)
  rw [Nat.add_zero] at e0
  rw [e0, e1, e2, e3, e4, e5]
  unfold smR
  have k1 := smN_rawOf h1 l1
  have k2 := smN_rawOf h2 l2
  have k3 := smN_rawOf h3 l3
  have k4 := rq_rawOf b
  have k5 := rq_rawOf c
  show (smN 4 (decide (a.num < 0), limbs a.num.natAbs) (decide ((a.den : Int) < 0), limbs (a.den : Int).natAbs) && (smN 4 (decide (b.num < 0), limbs b.num.natAbs) (decide ((b.den : Int) < 0), limbs (b.den : Int).natAbs) && (smN 4 (decide (c.num < 0), limbs c.num.natAbs) (decide ((c.den : Int) < 0), limbs (c.den : Int).natAbs) && Rdb (rq (decide (b.num < 0), limbs b.num.natAbs) (decide ((b.den : Int) < 0), limbs (b.den : Int).natAbs)) (rq (decide (c.num < 0), limbs c.num.natAbs) (decide ((c.den : Int) < 0), limbs (c.den : Int).natAbs))))) = true
  rw [k1, k2, k3, k4, k5, Rdb_iff.2 R]
  rfl
theorem ints_raws {E E' : Env} {w : World} : ∀ (n i : Nat) (vs : List Value), chunks E w ((List.range n).map fun k => .int (.var (i + k)) 4) vs → (∀ k, k < n → E'.r (i + k) = (decide (E.i (i + k) < 0), limbs (E.i (i + k)).natAbs)) → chunks E' w ((List.range n).map fun k => .raw (i + k)) vs := by
  intro n
  induction n with
  | zero => intro i vs h _; exact h
  | succ n ih =>
    intro i vs h e
    rw [List.range_succ_eq_map, List.map_cons, List.map_map] at h ⊢
    obtain ⟨l, r, rfl, h1, h2⟩ := h
    refine ⟨l, r, rfl, int_chunk h1 (e 0 (by omega)), ?_⟩
    have key := ih (i + 1) r (by
      have : (List.range n).map ((fun k => Chunk.int (.var (i + k)) 4) ∘ Nat.succ) = (List.range n).map fun k => Chunk.int (.var (i + 1 + k)) 4 := List.map_congr_left fun k _ => by simp only [Function.comp]; rw [show i + (k + 1) = i + 1 + k by omega]
      rw [← this]; exact h2) (fun k hk => by
        have := e (k + 1) (by omega)
        rwa [show i + (k + 1) = i + 1 + k by omega] at this)
    have : (List.range n).map ((fun k => Chunk.raw (i + k)) ∘ Nat.succ) = (List.range n).map fun k => Chunk.raw (i + 1 + k) := List.map_congr_left fun k _ => by simp only [Function.comp]; rw [show i + (k + 1) = i + 1 + k by omega]
    rw [this]; exact key
theorem smRT_ok1 {w0 : World} {v : Value} {a b c : Rat} {l : List Rat} (h : SmRt w0 v a b c) : RowSm (qE (a :: b :: c :: l)) 25 (smRT 1) := by
  intro cs off x hx w bl hv
  unfold smRT at hx
  split at hx
  · rename_i hbb
    injection hx with hx
    subst hx
    simp only [Bool.and_eq_true, beq_iff_eq] at hbb
    obtain ⟨h1, h2, rfl⟩ := hbb
    have hcs := isV4_spec h1
    rw [h2] at hcs
    rw [hcs] at hv
    have hv' : VarAt (roE (rawsOf a b c)) w bl (rowR 1) := by
      obtain ⟨vs, hc, hcell⟩ := hv
      refine ⟨vs, ?_, hcell⟩
      exact ints_raws 6 0 vs hc (fun k hk => by
        match k, hk with
        | 0, _ => rfl
        | 1, _ => rfl
        | 2, _ => rfl
        | 3, _ => rfl
        | 4, _ => rfl
        | 5, _ => rfl)
    refine (smallR_row1 w bl hv').mono ?_
    rintro e w' ⟨y, rfl, hy, ex⟩
    have : y = true := hy.2 (fun i hi => by
      match i, hi with
      | 0, _ => exact h.sm (fun i _ => by rw [Nat.mul_zero, Nat.zero_add]))
    subst this
    exact ⟨rfl, ex⟩
  · cases hx
theorem smRT_ok2 {w0 w1 : World} {v u : Value} {a b c a' b' c' : Rat} {l : List Rat} (h : SmRt w0 v a b c) (h' : SmRt w1 u a' b' c') : RowSm (qE (a :: b :: c :: a' :: b' :: c' :: l)) 25 (smRT 2) := by
  intro cs off x hx w bl hv
  unfold smRT at hx
  split at hx
  · rename_i hbb
    injection hx with hx
    subst hx
    simp only [Bool.and_eq_true, beq_iff_eq] at hbb
    obtain ⟨h1, h2, rfl⟩ := hbb
    have hcs := isV4_spec h1
    rw [h2] at hcs
    rw [hcs] at hv
    have hv' : VarAt (roE (rawsOf a b c ++ rawsOf a' b' c')) w bl (rowR 2) := by
      obtain ⟨vs, hc, hcell⟩ := hv
      refine ⟨vs, ?_, hcell⟩
      exact ints_raws 12 0 vs hc (fun k hk => by
        match k, hk with
        | 0, _ => rfl
        | 1, _ => rfl
        | 2, _ => rfl
        | 3, _ => rfl
        | 4, _ => rfl
        | 5, _ => rfl
        | 6, _ => rfl
        | 7, _ => rfl
        | 8, _ => rfl
        | 9, _ => rfl
        | 10, _ => rfl
        | 11, _ => rfl)
    refine (smallR_row2 w bl hv').mono ?_
    rintro e w' ⟨y, rfl, hy, ex⟩
    have : y = true := hy.2 (fun i hi => by
      match i, hi with
      | 0, _ => exact h.sm (fun i hi => by
          match i, hi with
          | 0, _ => rfl
          | 1, _ => rfl
          | 2, _ => rfl
          | 3, _ => rfl
          | 4, _ => rfl
          | 5, _ => rfl)
      | 1, _ => exact h'.sm (fun i hi => by
          match i, hi with
          | 0, _ => rfl
          | 1, _ => rfl
          | 2, _ => rfl
          | 3, _ => rfl
          | 4, _ => rfl
          | 5, _ => rfl))
    subst this
    exact ⟨rfl, ex⟩
  · cases hx
theorem isRaw_row {cs : List Chunk} (h : isRaw 0 cs = true) : cs = (List.range cs.length).map fun k => .raw (0 + k) := by
  have := isRaw_spec h
  exact this
/-- A law of one root, of two roots: small ones, or others. -/
theorem lawR1_any {f : Nat} {fn : Func} (hf : Tryz.prog.funcs[f]? = some fn) (h4 : fn.results.toList.length ≤ 4) (hR : funE (cfgS 25 (smRF 1) (cfgOf [(12, kTru)])) fn [] [.val true (rwC 0)] = some (lfB (.lit true))) (hn : 1 ≤ fn.ntmps)
    (w : World) (v : Value) (p1 p2 p3 p4 p5 p6 : RI) (h : RawR w v p1 p2 p3 p4 p5 p6) (hv : ∀ a b c : Rat, SmRt w v a b c → Calls Tryz.prog f #[v] w (IsTrue w)) : Calls Tryz.prog f #[v] w (IsTrue w) := by
  by_cases hc : smR p1 p2 p3 p4 p5 p6 = true
  · have hc' := hc
    unfold smR at hc'
    simp only [Bool.and_eq_true] at hc'
    obtain ⟨c1, c2, c3, c4⟩ := hc'
    obtain ⟨k1, k2⟩ := h.root c1 c2 c3
    exact hv _ _ _ ⟨k1, k2, Rdb_iff.1 c4⟩
  · have hs : RowSm (roE [p1, p2, p3, p4, p5, p6]) 25 (smRF 1) := by
      intro cs off x hx w bl hv
      unfold smRF at hx
      split at hx
      · rename_i hb
        injection hx with hx
        subst hx
        simp only [Bool.and_eq_true, beq_iff_eq] at hb
        obtain ⟨h1, h2, rfl⟩ := hb
        have hcs := isRaw_row h1
        rw [h2] at hcs
        have hcs' : cs = rowR 1 := hcs
        subst hcs'
        refine (smallR_row1 w bl hv).mono ?_
        rintro e w' ⟨y, rfl, hy, ex⟩
        have : y = false := by
          cases y with
          | false => rfl
          | true => exact absurd (hy.1 rfl 0 (by omega)) hc
        subst this
        exact ⟨rfl, ex⟩
      · cases hx
    refine (fun_sound mixed (cfgS_ok (cfg_ok (.cons kAw_ok .nil)) hs ⟨_, Tryz.func25, by decide +kernel, by kernel_rfl⟩) no_asm hf h4 hR hn rfl w [v] rfl ?_).mono ?_
    · intro i x hx
      match i, hx with
      | 0, hx => injection hx with hx; subst hx; exact ⟨fun _ => 0, v, rfl, (one_rwC (i := 0)).2 h⟩
    · rintro e w' ⟨β, u, rfl, hh, ex⟩
      rw [lfB_out hh]
      exact ⟨rfl, ex⟩
theorem lawR2_any {f : Nat} {fn : Func} (hf : Tryz.prog.funcs[f]? = some fn) (h4 : fn.results.toList.length ≤ 4) (hR : funE (cfgS 25 (smRF 2) (cfgOf [(12, kTru)])) fn [] [.val true (rwC 0), .val true (rwC 6)] = some (lfB (.lit true))) (hn : 2 ≤ fn.ntmps)
    (w : World) (v u : Value) (p1 p2 p3 p4 p5 p6 q1 q2 q3 q4 q5 q6 : RI) (h : RawR w v p1 p2 p3 p4 p5 p6) (h' : RawR w u q1 q2 q3 q4 q5 q6) (hv : ∀ a b c a' b' c' : Rat, SmRt w v a b c → SmRt w u a' b' c' → Calls Tryz.prog f #[v, u] w (IsTrue w)) : Calls Tryz.prog f #[v, u] w (IsTrue w) := by
  by_cases hc : smR p1 p2 p3 p4 p5 p6 = true ∧ smR q1 q2 q3 q4 q5 q6 = true
  · obtain ⟨hc1, hc2⟩ := hc
    unfold smR at hc1 hc2
    simp only [Bool.and_eq_true] at hc1 hc2
    obtain ⟨c1, c2, c3, c4⟩ := hc1
    obtain ⟨d1, d2, d3, d4⟩ := hc2
    obtain ⟨k1, k2⟩ := h.root c1 c2 c3
    obtain ⟨j1, j2⟩ := h'.root d1 d2 d3
    exact hv _ _ _ _ _ _ ⟨k1, k2, Rdb_iff.1 c4⟩ ⟨j1, j2, Rdb_iff.1 d4⟩
  · have hs : RowSm (roE [p1, p2, p3, p4, p5, p6, q1, q2, q3, q4, q5, q6]) 25 (smRF 2) := by
      intro cs off x hx w bl hv
      unfold smRF at hx
      split at hx
      · rename_i hb
        injection hx with hx
        subst hx
        simp only [Bool.and_eq_true, beq_iff_eq] at hb
        obtain ⟨h1, h2, rfl⟩ := hb
        have hcs := isRaw_row h1
        rw [h2] at hcs
        have hcs' : cs = rowR 2 := hcs
        subst hcs'
        refine (smallR_row2 w bl hv).mono ?_
        rintro e w' ⟨y, rfl, hy, ex⟩
        have : y = false := by
          cases y with
          | false => rfl
          | true => exact absurd ⟨hy.1 rfl 0 (by omega), hy.1 rfl 1 (by omega)⟩ hc
        subst this
        exact ⟨rfl, ex⟩
      · cases hx
    refine (fun_sound mixed (cfgS_ok (cfg_ok (.cons kAw_ok .nil)) hs ⟨_, Tryz.func25, by decide +kernel, by kernel_rfl⟩) no_asm hf h4 hR hn rfl w [v, u] rfl ?_).mono ?_
    · intro i x hx
      match i, hx with
      | 0, hx => injection hx with hx; subst hx; exact ⟨fun _ => 0, v, rfl, (one_rwC (i := 0)).2 h⟩
      | 1, hx => injection hx with hx; subst hx; exact ⟨fun _ => 0, u, rfl, (one_rwC (i := 6)).2 h'⟩
    · rintro e w' ⟨β, y, rfl, hh, ex⟩
      rw [lfB_out hh]
      exact ⟨rfl, ex⟩
end Go.Proofs.YtdblkeeicmncfaaGreat
end

/- ---- Rtn ---- -/
section
/-
  RootSum, RootSign, RootMul, RootInv, RootFloor.
-/
set_option maxRecDepth 100000
namespace Go.Proofs.YtdblkeeicmncfaaGreat
open Go.RowKit

theorem eq_parts {E : Env} {p q : IT2} {a b : Rat} (hp : RepQ E p a) (hq : RepQ E q b) : (BT.and (.eq p.1 q.1) (.eq p.2 q.2)).den E = decide (a = b) := by
  show (p.1.den E == q.1.den E && p.2.den E == q.2.den E) = _
  rw [hp.1, hp.2, hq.1, hq.2, Bool.eq_iff_iff, Bool.and_eq_true, beq_iff_eq, beq_iff_eq, decide_eq_true_iff]
  exact rat_eq_parts.symm
def rsT (A B C A' B' C' : IT2) : BT := smT6 A.1 A.2 B.1 B.2 C.1 C.2 A'.1 A'.2 B'.1 B'.2 C'.1 C'.2
theorem rs_den {E : Env} {A B C A' B' C' : IT2} {a b c a' b' c' : Rat} (hA : RepQ E A a) (hB : RepQ E B b) (hC : RepQ E C c) (hA' : RepQ E A' a') (hB' : RepQ E B' b') (hC' : RepQ E C' c') : (rsT A B C A' B' C').den E = (decide (a = a') && (decide (b = b') && decide (c = c'))) := by
  show ((BT.and (.eq A.1 A'.1) (.eq A.2 A'.2)).den E && ((BT.and (.eq B.1 B'.1) (.eq B.2 B'.2)).den E && (BT.and (.eq C.1 C'.1) (.eq C.2 C'.2)).den E)) = _
  rw [eq_parts hA hA', eq_parts hB hB', eq_parts hC hC']
theorem rs_true {E : Env} {A B C A' B' C' : IT2} {a b c a' b' c' : Rat} (hA : RepQ E A a) (hB : RepQ E B b) (hC : RepQ E C c) (hA' : RepQ E A' a') (hB' : RepQ E B' b') (hC' : RepQ E C' c') (e1 : a = a') (e2 : b = b') (e3 : c = c') : (rsT A B C A' B' C').den E = true := by
  rw [rs_den hA hB hC hA' hB' hC', decide_eq_true e1, decide_eq_true e2, decide_eq_true e3]; rfl
theorem Ok.symm {b c b' c' : Rat} (h : Ok b c b' c') : Ok b' c' b c := by
  rcases h with h | h | h
  · exact .inr (.inl h)
  · exact .inl h
  · exact .inr (.inr h.symm)
theorem isT {E : Env} {t : BT} {w w' : World} (ex : Ext w w') (h : t.den E = true) : IsTrue w (.returned (.bool (t.den E))) w' := ⟨by rw [h], ex⟩
/-- The common radicand does not depend on the order, where it counts. -/
theorem rC_cm {b c b' c' x : Rat} (h : Ok b c b' c') (hx : x ≠ 0 → b ≠ 0 ∨ b' ≠ 0) : rC x (cm b c c') = rC x (cm b' c' c) := by
  by_cases h0 : x = 0
  · subst h0; rw [rC_zero, rC_zero]
  · rw [rC_ne h0, rC_ne h0]
    by_cases hb : b = 0
    · have hb' : b' ≠ 0 := (hx h0).elim (fun k => absurd hb k) id
      rw [hb, cm_zero, cm_ne hb']
    · rw [cm_ne hb]
      by_cases hb' : b' = 0
      · rw [hb', cm_zero]
      · rw [cm_ne hb']
        rcases h with k | k | k
        · exact absurd k hb
        · exact absurd k hb'
        · exact k
/-- The radicand of a result is reduced. -/
theorem Rd.comb {b c b' c' x : Rat} (R : Rd b c) (R' : Rd b' c') (hx : x ≠ 0 → b ≠ 0 ∨ b' ≠ 0) : Rd x (rC x (cm b c c')) := by
  by_cases h0 : x = 0
  · subst h0; rw [rC_zero]; exact .inl ⟨rfl, rfl⟩
  · rw [rC_ne h0]
    by_cases hb : b = 0
    · have hb' : b' ≠ 0 := (hx h0).elim (fun k => absurd hb k) id
      rw [hb, cm_zero]
      rcases R' with ⟨k, _⟩ | ⟨_, k⟩
      · exact absurd k hb'
      · exact .inr ⟨h0, k⟩
    · rw [cm_ne hb]
      rcases R with ⟨k, _⟩ | ⟨_, k⟩
      · exact absurd k hb
      · exact .inr ⟨h0, k⟩
theorem rd_den {E : Env} {B C : IT2} {b c : Rat} (hB : RepQ E B b) (hC : RepQ E C c) (R : Rd b c) : (rdT B C).den E = true := by rw [rdT_den hB hC]; exact Rdb_iff.2 R
theorem nok_f {E : Env} {B C B' C' : IT2} {b c b' c' : Rat} (hB : RepQ E B b) (hC : RepQ E C c) (hB' : RepQ E B' b') (hC' : RepQ E C' c') (h : Ok b c b' c') : (nokT B C B' C').den E = false := (nokT_den hB hC hB' hC').2 h
theorem nok_t {E : Env} {B C B' C' : IT2} {b c b' c' : Rat} (hB : RepQ E B b) (hC : RepQ E C c) (hB' : RepQ E B' b') (hC' : RepQ E C' c') (h : ¬ Ok b c b' c') : (nokT B C B' C').den E = true := by
  cases hh : (nokT B C B' C').den E with
  | true => rfl
  | false => exact absurd ((nokT_den hB hC hB' hC').1 hh) h
theorem asm_nil {E : Env} : Asm.holds E [] := no_asm
theorem asm_and {E : Env} {t : BT} {b : Bool} {G : Asm} (h : t.den E = b) (k : G.holds E) : Asm.holds E ((t, b) :: G) := fun p hp => by
  rcases List.mem_cons.1 hp with rfl | hp
  · exact h
  · exact k p hp
theorem args_r1 {w : World} {v : Value} {a b c : Rat} {l : List Rat} (h : SmRt w v a b c) : ∀ (i : Nat) (x : AV), [aRl 0 4][i]? = some x → ∃ β u, [v][i]? = some u ∧ x.holds (qE (a :: b :: c :: l)) β w u := by
  intro i x hx
  match i, hx with
  | 0, hx => injection hx with hx; subst hx; exact ⟨fun _ => 0, v, rfl, aRl_holds h.is h.lim⟩
theorem args_r2 {w : World} {v u : Value} {a b c a' b' c' : Rat} {l : List Rat} (h : SmRt w v a b c) (h' : SmRt w u a' b' c') : ∀ (i : Nat) (x : AV), [aRl 0 4, aRl 3 4][i]? = some x → ∃ β y, [v, u][i]? = some y ∧ x.holds (qE (a :: b :: c :: a' :: b' :: c' :: l)) β w y := by
  intro i x hx
  match i, hx with
  | 0, hx => injection hx with hx; subst hx; exact ⟨fun _ => 0, v, rfl, aRl_holds h.is h.lim⟩
  | 1, hx => injection hx with hx; subst hx; exact ⟨fun _ => 0, u, rfl, aRl_holds (i := 3) h'.is h'.lim⟩
def g2 (n m : Bool) : Asm := [(rdT (qv 1) (qv 2), true), (rdT (qv 4) (qv 5), true), (nokT (qv 1) (qv 2) (qv 4) (qv 5), n), (nokT (qv 4) (qv 5) (qv 1) (qv 2), m)]
def zsT : BT := smT6 (.lit 0) (.lit 0) (.lit 0) (.lit 0) (.lit 0) (.lit 0) (.lit 0) (.lit 0) (.lit 0) (.lit 0) (.lit 0) (.lit 0)
section
variable {w : World} {v u : Value} {a b c a' b' c' : Rat}
theorem g2_f (R : Rd b c) (R' : Rd b' c') (h : Ok b c b' c') : (g2 false false).holds (qE [a, b, c, a', b', c']) := by
  obtain ⟨ra, rb, rc, ra', rb', rc'⟩ := rep6 (a := a) (b := b) (c := c) (a' := a') (b' := b') (c' := c')
  exact asm_and (rd_den rb rc R) (asm_and (rd_den rb' rc' R') (asm_and (nok_f rb rc rb' rc' h) (asm_and (nok_f rb' rc' rb rc h.symm) asm_nil)))
theorem g2_t (R : Rd b c) (R' : Rd b' c') (h : ¬ Ok b c b' c') : (g2 true true).holds (qE [a, b, c, a', b', c']) := by
  obtain ⟨ra, rb, rc, ra', rb', rc'⟩ := rep6 (a := a) (b := b) (c := c) (a' := a') (b' := b') (c' := c')
  exact asm_and (rd_den rb rc R) (asm_and (rd_den rb' rc' R') (asm_and (nok_t rb rc rb' rc' h) (asm_and (nok_t rb' rc' rb rc (fun k => h k.symm)) asm_nil)))
def rtA : IT2 × IT2 × IT2 := (qv 0, qv 1, qv 2)
def rtB : IT2 × IT2 × IT2 := (qv 3, qv 4, qv 5)
def cmA : IT2 := cmT (qv 1) (qv 2) (qv 5)
def cmB : IT2 := cmT (qv 4) (qv 5) (qv 2)
/-- RootSum. -/
theorem sum_small (h : SmRt w v a b c) (h' : SmRt w u a' b' c') : Calls Tryz.prog 6 #[v, u] w (IsTrue w) := by
  obtain ⟨ra, rb, rc, ra', rb', rc'⟩ := rep6 (a := a) (b := b) (c := c) (a' := a') (b' := b') (c' := c')
  by_cases hok : Ok b c b' c'
  · refine (fun_sound (E := qE [a, b, c, a', b', c']) (G := g2 false false) (T := lfB (rsT (addA rtA rtB) (addB rtA rtB) (qop 5 (addB rtA rtB) cmA) (addA rtB rtA) (addB rtB rtA) (qop 5 (addB rtB rtA) cmB)))
      mixed (cL_ok (tab := []) (qE_ok _) .nil (smRT_ok2 h h')) (g2_f h.rd h'.rd hok) Tryz.func6 (by decide +kernel) (by kernel_rfl) (by decide +kernel) rfl w [v, u] rfl (args_r2 h h')).mono ?_
    rintro e w' ⟨β, y, rfl, hh, ex⟩
    rw [lfB_out hh]
    refine isT ex (rs_true (rep_add ra ra') (rep_add rb rb') (rep_rC (rep_add rb rb') (rep_cm rb rc rc')) (rep_add ra' ra) (rep_add rb' rb) (rep_rC (rep_add rb' rb) (rep_cm rb' rc' rc)) (by grind) (by grind) ?_)
    rw [show b' + b = b + b' by grind]
    exact rC_cm hok (fun h0 => by
      by_cases hb : b = 0
      · exact .inr (fun hb' => h0 (by rw [hb, hb']; grind))
      · exact .inl hb)
  · refine (fun_sound (E := qE [a, b, c, a', b', c']) (G := g2 true true) (T := lfB zsT)
      mixed (cL_ok (tab := []) (qE_ok _) .nil (smRT_ok2 h h')) (g2_t h.rd h'.rd hok) Tryz.func6 (by decide +kernel) (by kernel_rfl) (by decide +kernel) rfl w [v, u] rfl (args_r2 h h')).mono ?_
    rintro e w' ⟨β, y, rfl, hh, ex⟩
    rw [lfB_out hh]
    exact ⟨rfl, ex⟩
end
theorem rootSum_calls (w : World) (v u : Value) (p1 p2 p3 p4 p5 p6 q1 q2 q3 q4 q5 q6 : RI) (h : RawR w v p1 p2 p3 p4 p5 p6) (h' : RawR w u q1 q2 q3 q4 q5 q6) : Calls Tryz.prog 6 #[v, u] w (IsTrue w) :=
  lawR2_any Tryz.func6 (by decide +kernel) (by kernel_rfl) (by decide +kernel) w v u p1 p2 p3 p4 p5 p6 q1 q2 q3 q4 q5 q6 h h' (fun _ _ _ _ _ _ k k' => sum_small k k')
/-- Make with the denominator 1. -/
def kMk1 : Con
  | [.val true [.int x l], .val true [.int (.lit z) _]], _ => if lo l && z == 1 then some (.tup [(true, [.int x l, .int (.lit 1) 1]), (false, [.n .i64 (.lit 0)])]) else none
  | _, _ => none
theorem kMk1_ok {E : Env} {f : Nat} (hc : ∀ (w : World) (v u : Value) (a b : Int), IsInt w v a → IsInt w u b → Lim 400000 a → Lim 400000 b → Calls Tryz.prog f #[v, u] w (RetMake a b w))
    (hb : ∃ fn, Tryz.prog.funcs[f]? = some fn ∧ fn.name ≠ "runtime.NumGoroutine" ∧ fn.body.isNone = false) : ConOK Tryz.prog E f kMk1 := by
  refine ⟨?_, ?_, hb⟩
  · intro args G r h hG β w vs hv hlen
    unfold kMk1 at h
    split at h
    · rename_i x l z m
      split at h
      · rename_i hcd
        simp only [lo, Bool.and_eq_true, decide_eq_true_iff, beq_iff_eq] at hcd
        obtain ⟨hl, rfl⟩ := hcd
        injection h with h
        subst h
        obtain ⟨v, u, rfl, h1, h2⟩ := args2 hv hlen
        obtain ⟨i1, l1⟩ := one_int.1 h1
        obtain ⟨i2, l2⟩ := one_int.1 h2
        refine (hc w v u _ _ i1 i2 (l1.mono hl) ((lim1 (z := 1) (by decide)).mono (by omega))).mono ?_
        rintro e w' ⟨x0, x1, x2, x3, rfl, k1, k2, ex⟩
        have e1 : Rat.divInt (x.den E) 1 = ((x.den E : Int) : Rat) := (intCast_divInt _).symm
        have e2 : denZ (x.den E) 1 = 1 := by
          unfold denZ
          rw [if_neg (by decide), e1, Rat.den_intCast]; rfl
        have k1' : IsInt w' (.agg #[x0, x1]) (Rat.divInt (x.den E) 1).num := k1
        have k2' : IsInt w' (.agg #[x2, x3]) (denZ (x.den E) 1) := k2
        rw [e1, Rat.num_intCast] at k1'
        rw [e2] at k2'
        exact ⟨_, rfl, ⟨[.agg #[x0, x1, x2, x3], .int .i64 0], rfl, _, _, rfl, one_pair.2 ⟨⟨x0, x1, x2, x3, rfl, k1', k2'⟩, l1, lim1 (z := 1) (by decide)⟩, _, _, rfl, one_num.2 rfl, rfl⟩, ex⟩
      · cases h
    · cases h
  · intro args G r h x off
    unfold kMk1 at h
    split at h
    · split at h
      · injection h with h; subst h; intro e; cases e
      · cases h
    · cases h
end Go.Proofs.YtdblkeeicmncfaaGreat
end

/- ---- Rto ---- -/
section
/-
  RootMul, RootInv, RootFloor, RootSign.
-/
set_option maxRecDepth 100000
namespace Go.Proofs.YtdblkeeicmncfaaGreat
open Go.RowKit

theorem rep_it {E : Env} {t : IT} {f : Int} (h : t.den E = f) : RepQ E (t, .lit 1) (f : Rat) := by
  constructor
  · show t.den E = _
    rw [h, Rat.num_intCast]
  · show (1 : Int) = _
    rw [Rat.den_intCast]; rfl
/-- RootFloor. -/
noncomputable def tbF : List (Nat × Con) := [(43, kMk1)]
theorem tbF_ok {E : Env} : TabOK Tryz.prog E tbF := .cons (kMk1_ok (fun w v u a b h k l1 l2 => rmake_calls w v u a b h k l1 l2) ⟨_, Tryz.func43, by decide +kernel, by kernel_rfl⟩) .nil
def flT1 : IT2 := (floT (qv 0) (qv 1) (qv 2), .lit 1)
theorem floor_small {w : World} {v : Value} {a b c : Rat} (h : SmRt w v a b c) : Calls Tryz.prog 9 #[v] w (IsTrue w) := by
  obtain ⟨ra, rb, rc⟩ := rep3 (a := a) (b := b) (c := c)
  refine (fun_sound (E := qE [a, b, c]) (G := [(rdT (qv 1) (qv 2), true)]) (T := .ite (.le (.lit 0) (sgnT (qop 0 (qv 0) (qng flT1)) (qv 1) (qv 2))) (lfB (.lt (sgnT (qop 0 (qv 0) (qng (qop 0 flT1 (.lit 1, .lit 1)))) (qv 1) (qv 2)) (.lit 0))) (lfB (.lit false)))
    mixed (cL_ok (qE_ok _) tbF_ok (smRT_ok1 h)) (asm_and (rd_den rb rc h.rd) asm_nil) Tryz.func9 (by decide +kernel) (by kernel_rfl) (by decide +kernel) rfl w [v] rfl (args_r1 h)).mono ?_
  rintro e w' ⟨β, y, rfl, hh, ex⟩
  have rf : RepQ (qE [a, b, c]) flT1 ((flN a b c : Int) : Rat) := rep_it (floT_den ra rb rc)
  obtain ⟨s1, s2⟩ := flN_spec h.rd (a := a)
  have e1 : (BT.le (.lit 0) (sgnT (qop 0 (qv 0) (qng flT1)) (qv 1) (qv 2))).den (qE [a, b, c]) = true := by
    show decide (0 ≤ (sgnT (qop 0 (qv 0) (qng flT1)) (qv 1) (qv 2)).den (qE [a, b, c])) = true
    rw [sgnT_den (rep_add ra (rep_ng rf)) rb rc h.rd, show a + -((flN a b c : Int) : Rat) = a - ((flN a b c : Int) : Rat) by grind, decide_eq_true_iff]
    exact s1
  rw [ite_pick e1, if_pos rfl] at hh
  rw [lfB_out hh]
  refine isT ex ?_
  show decide ((sgnT (qop 0 (qv 0) (qng (qop 0 flT1 (.lit 1, .lit 1)))) (qv 1) (qv 2)).den (qE [a, b, c]) < 0) = true
  rw [sgnT_den (rep_add ra (rep_ng (rep_add rf rep_1))) rb rc h.rd, decide_eq_true_iff]
  rw [show a + -(((flN a b c : Int) : Rat) + 1) = a - ((flN a b c + 1 : Int) : Rat) by rw [Rat.intCast_add]; have : ((1 : Int) : Rat) = 1 := rfl; rw [this]; grind]
  exact s2
theorem rootFloor_calls (w : World) (v : Value) (p1 p2 p3 p4 p5 p6 : RI) (h : RawR w v p1 p2 p3 p4 p5 p6) : Calls Tryz.prog 9 #[v] w (IsTrue w) :=
  lawR1_any Tryz.func9 (by decide +kernel) (by kernel_rfl) (by decide +kernel) w v p1 p2 p3 p4 p5 p6 h (fun _ _ _ k => floor_small k)
/-- RootMul. -/
def pdA : IT2 := mulA rtA rtB
def pdB : IT2 := mulB rtA rtB
def pdC : IT2 := qop 5 pdB cmA
def qdA : IT2 := mulA rtB rtA
def qdB : IT2 := mulB rtB rtA
def qdC : IT2 := qop 5 qdB cmB
theorem sgN_b0 {a c c' : Rat} : sgN a 0 c = sgN a 0 c' := by
  have e : nrm a 0 c = nrm a 0 c' := by unfold nrm; grind
  unfold sgN
  rw [e]
theorem sgN_rC {a b c : Rat} : sgN a b (rC b c) = sgN a b c := by
  by_cases hb : b = 0
  · subst hb; exact sgN_b0
  · rw [rC_ne hb]
theorem sgN_abs (a b c : Rat) : -1 ≤ sgN a b c ∧ sgN a b c ≤ 1 := by
  have h1 := sgQ_cases a
  have h2 := sgQ_cases b
  unfold sgN
  split
  · omega
  · split <;> omega
theorem Rd.nonneg {b c : Rat} (R : Rd b c) : 0 ≤ c := by
  rcases R with ⟨_, h⟩ | ⟨_, h, _⟩ <;> grind
theorem cm_nonneg {b c b' c' : Rat} (R : Rd b c) (R' : Rd b' c') : 0 ≤ cm b c c' := by
  by_cases hb : b = 0
  · rw [hb, cm_zero]; exact R'.nonneg
  · rw [cm_ne hb]; exact R.nonneg
theorem sgN_cm1 {a b c c' : Rat} : sgN a b (cm b c c') = sgN a b c := by
  by_cases hb : b = 0
  · subst hb; exact sgN_b0
  · rw [cm_ne hb]
theorem sgN_cm2 {a' b c b' c' : Rat} (h : Ok b c b' c') : sgN a' b' (cm b c c') = sgN a' b' c' := by
  by_cases hb' : b' = 0
  · subst hb'; exact sgN_b0
  · by_cases hb : b = 0
    · rw [hb, cm_zero]
    · rw [cm_ne hb]
      rcases h with k | k | k
      · exact absurd k hb
      · exact absurd k hb'
      · rw [k]
theorem mul_b {a b a' b' : Rat} (h : a * b' + b * a' ≠ 0) : b ≠ 0 ∨ b' ≠ 0 := by
  by_cases hb : b = 0
  · exact .inr (fun hb' => h (by rw [hb, hb']; grind))
  · exact .inl hb
theorem mul_small {w : World} {v u : Value} {a b c a' b' c' : Rat} (h : SmRt w v a b c) (h' : SmRt w u a' b' c') : Calls Tryz.prog 7 #[v, u] w (IsTrue w) := by
  obtain ⟨ra, rb, rc, ra', rb', rc'⟩ := rep6 (a := a) (b := b) (c := c) (a' := a') (b' := b') (c' := c')
  by_cases hok : Ok b c b' c'
  · have rA := rep_muA ra rb ra' rb' (rep_cm rb rc rc')
    have rB := rep_muB ra rb ra' rb'
    have rC' := rep_rC rB (rep_cm rb rc rc')
    have qA := rep_muA ra' rb' ra rb (rep_cm rb' rc' rc)
    have qB := rep_muB ra' rb' ra rb
    have qC := rep_rC qB (rep_cm rb' rc' rc)
    have RP : Rd (a * b' + b * a') (rC (a * b' + b * a') (cm b c c')) := Rd.comb h.rd h'.rd mul_b
    refine (fun_sound (E := qE [a, b, c, a', b', c']) (G := (rdT pdB pdC, true) :: g2 false false) (T := .ite (rsT pdA pdB pdC qdA qdB qdC) (lfB (.eq (sgnT pdA pdB pdC) (.a1 20 (.a2 2 (sgnT (qv 0) (qv 1) (qv 2)) (sgnT (qv 3) (qv 4) (qv 5)))))) (lfB (.lit false)))
      mixed (cL_ok (tab := []) (qE_ok _) .nil (smRT_ok2 h h')) (asm_and (rd_den rB rC' RP) (g2_f h.rd h'.rd hok)) Tryz.func7 (by decide +kernel) (by kernel_rfl) (by decide +kernel) rfl w [v, u] rfl (args_r2 h h')).mono ?_
    rintro e w' ⟨β, y, rfl, hh, ex⟩
    have t1 : (rsT pdA pdB pdC qdA qdB qdC).den (qE [a, b, c, a', b', c']) = true := by
      refine rs_true rA rB rC' qA qB qC ?_ (by grind) ?_
      · by_cases hb : b = 0
        · rw [hb, cm_zero]
          by_cases hb' : b' = 0
          · rw [hb']; grind
          · rw [cm_ne hb']; grind
        · rw [cm_ne hb]
          by_cases hb' : b' = 0
          · rw [hb', cm_zero]; grind
          · rw [cm_ne hb']
            rcases hok with k | k | k
            · exact absurd k hb
            · exact absurd k hb'
            · rw [k]; grind
      · rw [show a' * b + b' * a = a * b' + b * a' by grind]
        exact rC_cm hok mul_b
    rw [ite_pick t1, if_pos rfl] at hh
    rw [lfB_out hh]
    refine isT ex ?_
    show ((sgnT pdA pdB pdC).den _ == IntKind.i64.wrap ((sgnT (qv 0) (qv 1) (qv 2)).den _ * (sgnT (qv 3) (qv 4) (qv 5)).den _)) = true
    rw [sgnT_den ra rb rc h.rd, sgnT_den ra' rb' rc' h'.rd, show (sgnT pdA pdB pdC).den (qE [a, b, c, a', b', c']) = _ from sgnT_den rA rB rC' RP, sgN_rC, sgN_mul (cm_nonneg h.rd h'.rd), sgN_cm1, sgN_cm2 hok]
    obtain ⟨x1, x2⟩ := sgN_abs a b c
    obtain ⟨y1, y2⟩ := sgN_abs a' b' c'
    have hb : -1000000 ≤ sgN a b c * sgN a' b' c' ∧ sgN a b c * sgN a' b' c' ≤ 1000000 := by
      have := Int.natAbs_mul (sgN a b c) (sgN a' b' c')
      have h3 : (sgN a b c).natAbs * (sgN a' b' c').natAbs ≤ 1 * 1 := Nat.mul_le_mul (by omega) (by omega)
      omega
    rw [IntWalk.i64_in _ (by omega), beq_self_eq_true]
  · refine (fun_sound (E := qE [a, b, c, a', b', c']) (G := g2 true true) (T := lfB (.lit true))
      mixed (cL_ok (tab := []) (qE_ok _) .nil (smRT_ok2 h h')) (g2_t h.rd h'.rd hok) Tryz.func7 (by decide +kernel) (by kernel_rfl) (by decide +kernel) rfl w [v, u] rfl (args_r2 h h')).mono ?_
    rintro e w' ⟨β, y, rfl, hh, ex⟩
    rw [lfB_out hh]
    exact ⟨rfl, ex⟩
theorem rootMul_calls (w : World) (v u : Value) (p1 p2 p3 p4 p5 p6 q1 q2 q3 q4 q5 q6 : RI) (h : RawR w v p1 p2 p3 p4 p5 p6) (h' : RawR w u q1 q2 q3 q4 q5 q6) : Calls Tryz.prog 7 #[v, u] w (IsTrue w) :=
  lawR2_any Tryz.func7 (by decide +kernel) (by kernel_rfl) (by decide +kernel) w v u p1 p2 p3 p4 p5 p6 q1 q2 q3 q4 q5 q6 h h' (fun _ _ _ _ _ _ k k' => mul_small k k')
/-- RootInv. -/
def ivA : IT2 := qop 11 (qv 0) (nrmT (qv 0) (qv 1) (qv 2))
def ivB : IT2 := qng (qop 11 (qv 1) (nrmT (qv 0) (qv 1) (qv 2)))
def oneA : IT2 := mulA (qv 0, qv 1, qv 2) (ivA, ivB, qv 2)
def oneB : IT2 := mulB (qv 0, qv 1, qv 2) (ivA, ivB, qv 2)
def oneC : IT2 := qop 5 oneB (cmT (qv 1) (qv 2) (qv 2))
theorem div_div_self {x n : Rat} (hn : n ≠ 0) : x / n * n = x := Rat.div_mul_cancel hn
theorem inv_small {w : World} {v : Value} {a b c : Rat} (h : SmRt w v a b c) : Calls Tryz.prog 8 #[v] w (IsTrue w) := by
  obtain ⟨ra, rb, rc⟩ := rep3 (a := a) (b := b) (c := c)
  have rn := rep_nrm ra rb rc
  by_cases hz : nrm a b c = 0
  · refine (fun_sound (E := qE [a, b, c]) (G := [(rdT (qv 1) (qv 2), true), nG true]) (T := lfB (.lit true))
      mixed (cL_ok (tab := []) (qE_ok _) .nil (smRT_ok1 h)) (asm_and (rd_den rb rc h.rd) (asm_and (by rw [eq0_den rn, decide_eq_true hz]) asm_nil)) Tryz.func8 (by decide +kernel) (by kernel_rfl) (by decide +kernel) rfl w [v] rfl (args_r1 h)).mono ?_
    rintro e w' ⟨β, y, rfl, hh, ex⟩
    rw [lfB_out hh]
    exact ⟨rfl, ex⟩
  · obtain ⟨N, hN⟩ : ∃ N, N = nrm a b c := ⟨_, rfl⟩
    have hN0 : N ≠ 0 := by rw [hN]; exact hz
    have iA : RepQ (qE [a, b, c]) ivA (a / N) := by rw [hN]; exact rep_dv ra rn
    have iB : RepQ (qE [a, b, c]) ivB (-(b / N)) := by rw [hN]; exact rep_ng (rep_dv rb rn)
    obtain ⟨x, hx⟩ : ∃ x, x = a / N := ⟨_, rfl⟩
    obtain ⟨y, hy⟩ : ∃ y, y = b / N := ⟨_, rfl⟩
    have ex1 : x * N = a := by rw [hx]; exact div_div_self hN0
    have ey1 : y * N = b := by rw [hy]; exact div_div_self hN0
    rw [← hx] at iA
    rw [← hy] at iB
    have hNe : N = a * a - b * b * c := hN
    have hy0 : -y = 0 ↔ b = 0 := by
      constructor
      · intro k; have : y = 0 := by grind
        rw [← ey1, this]; grind
      · intro k
        rw [k] at ey1
        rcases Rat.mul_eq_zero.1 ey1 with k | k
        · grind
        · exact absurd k hN0
    have R2 : Rd (-y) c := by
      rcases h.rd with ⟨k1, k2⟩ | ⟨k1, k2⟩
      · exact .inl ⟨hy0.2 k1, k2⟩
      · exact .inr ⟨fun k => k1 (hy0.1 k), k2⟩
    have key : nrm x (-y) c * N = 1 := by
      have e1 : nrm x (-y) c * N * N = N := by
        unfold nrm
        rw [show (x * x - -y * -y * c) * N * N = x * N * (x * N) - y * N * (y * N) * c by grind, ex1, ey1, ← hNe]
      have e2 : (nrm x (-y) c * N - 1) * N = 0 := by grind
      rcases Rat.mul_eq_zero.1 e2 with k | k
      · grind
      · exact absurd k hN0
    have hM0 : nrm x (-y) c ≠ 0 := fun k => by
      rw [k] at key
      grind
    have rM := rep_nrm iA iB rc
    have hcc : cm b c c = c := by
      by_cases hb : b = 0
      · rw [hb, cm_zero]
      · rw [cm_ne hb]
    have oA : RepQ (qE [a, b, c]) oneA (a * x + b * -y * c) := by
      have := rep_muA ra rb iA iB (rep_cm rb rc rc)
      rw [hcc] at this
      exact this
    have oB : RepQ (qE [a, b, c]) oneB (a * -y + b * x) := rep_muB ra rb iA iB
    have oB0 : a * -y + b * x = 0 := by
      have : (a * -y + b * x) * N = 0 := by
        rw [show (a * -y + b * x) * N = b * (x * N) - a * (y * N) by grind, ex1, ey1]; grind
      rcases Rat.mul_eq_zero.1 this with k | k
      · exact k
      · exact absurd k hN0
    have oA1 : a * x + b * -y * c = 1 := by
      have e1 : (a * x + b * -y * c) * N = N := by
        rw [show (a * x + b * -y * c) * N = a * (x * N) - b * (y * N) * c by grind, ex1, ey1, ← hNe]
      have e2 : (a * x + b * -y * c - 1) * N = 0 := by grind
      rcases Rat.mul_eq_zero.1 e2 with k | k
      · grind
      · exact absurd k hN0
    have oC : RepQ (qE [a, b, c]) oneC (rC (a * -y + b * x) (cm b c c)) := rep_rC oB (rep_cm rb rc rc)
    have bA : RepQ (qE [a, b, c]) (qop 11 ivA (nrmT ivA ivB (qv 2))) (x / nrm x (-y) c) := rep_dv iA rM
    have bB : RepQ (qE [a, b, c]) (qng (qop 11 ivB (nrmT ivA ivB (qv 2)))) (-(-y / nrm x (-y) c)) := rep_ng (rep_dv iB rM)
    have dv : ∀ p q : Rat, p * N = q → p / nrm x (-y) c = q := by
      intro p q hpq
      have e1 := div_div_self (x := p) hM0
      generalize p / nrm x (-y) c = t at *
      have : t * (nrm x (-y) c * N) = q := by rw [← hpq, ← e1]; grind
      rw [key] at this
      grind
    refine (fun_sound (E := qE [a, b, c]) (G := [(rdT (qv 1) (qv 2), true), nG false, (rdT ivB (qv 2), true), (.eq (nrmT ivA ivB (qv 2)).1 (.lit 0), false)]) (T := .ite (rsT oneA oneB oneC (.lit 1, .lit 1) q0 q0) (lfB (rsT (qop 11 ivA (nrmT ivA ivB (qv 2))) (qng (qop 11 ivB (nrmT ivA ivB (qv 2)))) (qv 2) (qv 0) (qv 1) (qv 2))) (lfB (.lit false)))
      mixed (cL_ok (tab := []) (qE_ok _) .nil (smRT_ok1 h)) (asm_and (rd_den rb rc h.rd) (asm_and (by rw [eq0_den rn, decide_eq_false hz]) (asm_and (rd_den iB rc R2) (asm_and (by rw [eq0_den rM, decide_eq_false hM0]) asm_nil)))) Tryz.func8 (by decide +kernel) (by kernel_rfl) (by decide +kernel) rfl w [v] rfl (args_r1 h)).mono ?_
    rintro e w' ⟨β, u, rfl, hh, ex⟩
    have t1 : (rsT oneA oneB oneC (.lit 1, .lit 1) q0 q0).den (qE [a, b, c]) = true := rs_true oA oB oC rep_1 rep_0 rep_0 oA1 oB0 (by rw [oB0, rC_zero])
    rw [ite_pick t1, if_pos rfl] at hh
    rw [lfB_out hh]
    refine isT ex (rs_true bA bB rc ra rb rc (dv x a ex1) ?_ rfl)
    rw [dv (-y) (-b) (by rw [← ey1]; grind)]
    grind
theorem rootInv_calls (w : World) (v : Value) (p1 p2 p3 p4 p5 p6 : RI) (h : RawR w v p1 p2 p3 p4 p5 p6) : Calls Tryz.prog 8 #[v] w (IsTrue w) :=
  lawR1_any Tryz.func8 (by decide +kernel) (by kernel_rfl) (by decide +kernel) w v p1 p2 p3 p4 p5 p6 h (fun _ _ _ k => inv_small k)
/-- Small of a small number, and of one that isn't. -/
def kSmI : Con
  | [x, .val false [.n .i64 (.lit z)]], _ => match qOf x with
    | some (_, m) => if decide (m ≤ 4) && z == 4 then some (.val false [.b (.lit true)]) else none
    | none => none
  | _, _ => none
theorem kSmI_ok {E : Env} (hE : QEnv E) : ConOK Tryz.prog E 13 kSmI := by
  refine ⟨?_, ?_, ⟨_, Tryz.func13, by decide +kernel, by kernel_rfl⟩⟩
  · intro args G r h hG β w vs hv hlen
    unfold kSmI at h
    split at h
    · split at h
      · rename_i x z A m hx
        split at h
        · rename_i hcd
          simp only [Bool.and_eq_true, decide_eq_true_iff, beq_iff_eq] at hcd
          obtain ⟨hm, rfl⟩ := hcd
          injection h with h
          subst h
          obtain ⟨v, u, rfl, h1, h2⟩ := args2 hv hlen
          have h2' := one_num.1 h2
          subst h2'
          obtain ⟨a, ra, ia, la⟩ := qOf_spec hE hx h1
          refine (rsmall4_calls w v (decide (a.num < 0), limbs a.num.natAbs) (decide ((a.den : Int) < 0), limbs (a.den : Int).natAbs) (rat_raw ia).1).mono ?_
          rintro e w' ⟨rfl, ex⟩
          exact ⟨_, rfl, one_bool.2 (by rw [smN_rawOf ia (la.mono hm)]; rfl), ex⟩
        · cases h
      · cases h
    · cases h
  · intro args G r h x off
    unfold kSmI at h
    split at h
    · split at h
      · split at h
        · injection h with h; subst h; intro e; cases e
        · cases h
      · cases h
    · cases h
def kSmF : Con
  | [.val true [.raw i, .raw j], .val false [.n .i64 (.lit z)]], _ => if i == 0 && (j == 1 && z == 4) then some (.val false [.b (.lit false)]) else none
  | _, _ => none
theorem kSmF_ok {l : List Rat} {p q : RI} (hs : smN 4 p q = false) : ConOK Tryz.prog (mE l [p, q]) 13 kSmF := by
  refine ⟨?_, ?_, ⟨_, Tryz.func13, by decide +kernel, by kernel_rfl⟩⟩
  · intro args As r h hG β w vs hv hlen
    unfold kSmF at h
    split at h
    · rename_i i j z
      split at h
      · rename_i hij
        simp only [Bool.and_eq_true, beq_iff_eq] at hij
        obtain ⟨rfl, rfl, rfl⟩ := hij
        injection h with h
        subst h
        obtain ⟨v, u, rfl, h1, h2⟩ := args2 hv hlen
        have h2' := one_num.1 h2
        subst h2'
        refine (rsmall4_calls w v p q (one_raw2 h1)).mono ?_
        rintro e w' ⟨rfl, ex⟩
        exact ⟨_, rfl, one_bool.2 (by rw [hs]; rfl), ex⟩
      · cases h
    · cases h
  · intro args As r h x off
    unfold kSmF at h
    split at h
    · split at h
      · injection h with h; subst h; intro e; cases e
      · cases h
    · cases h
end Go.Proofs.YtdblkeeicmncfaaGreat
end

/- ---- Rtp ---- -/
section
/-
  RootSign, RootValid, RootMake.
-/
set_option maxRecDepth 100000
namespace Go.Proofs.YtdblkeeicmncfaaGreat
open Go.RowKit

def scA : IT2 := qop 2 (qv 0) (qv 3)
def scB : IT2 := qop 2 (qv 1) (qv 3)
def scC : IT2 := qop 5 scB (qv 2)
noncomputable def tbS : List (Nat × Con) := [(13, kOr kSmI kSmF)]
noncomputable def tbS1 : List (Nat × Con) := [(13, kSmI)]
theorem sign_small {w : World} {v u : Value} {a b c k : Rat} (h : SmRt w v a b c) (hu : IsRat w u k) (lk : LimQ 4 k) : Calls Tryz.prog 5 #[v, u] w (IsTrue w) := by
  have ra : RepQ (qE [a, b, c, k]) (qv 0) a := rep_v (i := 0)
  have rb : RepQ (qE [a, b, c, k]) (qv 1) b := rep_v (i := 1)
  have rc : RepQ (qE [a, b, c, k]) (qv 2) c := rep_v (i := 2)
  have rk : RepQ (qE [a, b, c, k]) (qv 3) k := rep_v (i := 3)
  have rA := rep_mul ra rk
  have rB := rep_mul rb rk
  have rC' := rep_rC rB rc
  have Rn : Rd (-b) c := by
    rcases h.rd with ⟨k1, k2⟩ | ⟨k1, k2⟩
    · exact .inl ⟨by rw [k1]; grind, k2⟩
    · exact .inr ⟨fun e => k1 (by grind), k2⟩
  have Rs : Rd (b * k) (rC (b * k) c) := by
    by_cases h0 : b * k = 0
    · rw [h0, rC_zero]; exact .inl ⟨rfl, rfl⟩
    · rw [rC_ne h0]
      rcases h.rd with ⟨k1, _⟩ | ⟨_, k2⟩
      · exact absurd (by rw [k1]; grind) h0
      · exact .inr ⟨h0, k2⟩
  refine (fun_sound (E := qE [a, b, c, k]) (G := [(rdT (qv 1) (qv 2), true), (rdT (qng (qv 1)) (qv 2), true), (rdT scB scC, true)]) (T := lfB (.eq (sgnT scA scB scC) (.a1 20 (.a2 2 (sgnT (qv 0) (qv 1) (qv 2)) (sgt (qv 3))))))
    mixed (cL_ok (tab := tbS1) (qE_ok _) (.cons (kSmI_ok (qE_ok _)) .nil) (smRT_ok1 h)) (asm_and (rd_den rb rc h.rd) (asm_and (rd_den (rep_ng rb) rc Rn) (asm_and (rd_den rB rC' Rs) asm_nil))) Tryz.func5 (by decide +kernel) (args := [aRl 0 4, aQl 3 4]) (by kernel_rfl) (by decide +kernel) rfl w [v, u] rfl ?_).mono ?_
  · intro i x hx
    match i, hx with
    | 0, hx => injection hx with hx; subst hx; exact ⟨fun _ => 0, v, rfl, aRl_holds h.is h.lim⟩
    | 1, hx => injection hx with hx; subst hx; exact ⟨fun _ => 0, u, rfl, aQl_holds (i := 3) hu lk⟩
  · rintro e w' ⟨β, y, rfl, hh, ex⟩
    rw [lfB_out hh]
    refine isT ex ?_
    show ((sgnT scA scB scC).den _ == IntKind.i64.wrap ((sgnT (qv 0) (qv 1) (qv 2)).den _ * (sgt (qv 3)).den _)) = true
    rw [sgnT_den ra rb rc h.rd, sgt_den rk, show (sgnT scA scB scC).den (qE [a, b, c, k]) = _ from sgnT_den rA rB rC' Rs, sgN_rC]
    have e1 := sgN_mul (a := a) (b := b) (a' := k) (b' := 0) h.rd.nonneg
    rw [show a * k + b * 0 * c = a * k by grind, show a * 0 + b * k = b * k by grind] at e1
    have e2 : sgN k 0 c = sgQ k := by
      by_cases hk : k = 0
      · subst hk; rw [sgN_zero (by unfold nrm; grind)]; rfl
      · rw [sgN_pos (by have := sq_pos hk; unfold nrm; grind)]
    rw [e1, e2]
    obtain ⟨x1, x2⟩ := sgN_abs a b c
    have y := sgQ_cases k
    have hb : -1000000 ≤ sgN a b c * sgQ k ∧ sgN a b c * sgQ k ≤ 1000000 := by
      have := Int.natAbs_mul (sgN a b c) (sgQ k)
      have h3 : (sgN a b c).natAbs * (sgQ k).natAbs ≤ 1 * 1 := Nat.mul_le_mul (by omega) (by omega)
      omega
    rw [IntWalk.i64_in _ (by omega), beq_self_eq_true]
theorem sign_other {w : World} {v u : Value} {a b c : Rat} {p q : RI} (h : SmRt w v a b c) (hu : RawQ w u p.1 p.2 q.1 q.2) (hs : smN 4 p q = false) : Calls Tryz.prog 5 #[v, u] w (IsTrue w) := by
  have rb : RepQ (mE [a, b, c] [p, q]) (qv 1) b := rep_v (l := [a, b, c]) (i := 1)
  have rc : RepQ (mE [a, b, c] [p, q]) (qv 2) c := rep_v (l := [a, b, c]) (i := 2)
  have hsm : RowSm (mE [a, b, c] [p, q]) 25 (smRT 1) := by
    intro cs off x hx w bl hv
    refine smRT_ok1 (l := []) h cs off x hx w bl ?_
    unfold smRT at hx
    split at hx
    · rename_i hbb
      simp only [Bool.and_eq_true, beq_iff_eq] at hbb
      have hcs := isV4_spec hbb.1
      rw [hbb.2.1] at hcs
      have hcs' : cs = [.int (.var 0) 4, .int (.var 1) 4, .int (.var 2) 4, .int (.var 3) 4, .int (.var 4) 4, .int (.var 5) 4] := hcs
      subst hcs'
      exact hv
    · cases hx
  refine (fun_sound (E := mE [a, b, c] [p, q]) (G := [(rdT (qv 1) (qv 2), true)]) (T := lfB (.lit true))
    mixed (cL_ok (tab := tbS) (mE_ok _ _) (.cons (kOr_ok (kSmI_ok (mE_ok _ _)) (kSmF_ok hs)) .nil) hsm) (asm_and (rd_den rb rc h.rd) asm_nil) Tryz.func5 (by decide +kernel) (args := [aRl 0 4, argRaw 0 1]) (by kernel_rfl) (by decide +kernel) rfl w [v, u] rfl ?_).mono ?_
  · intro i x hx
    match i, hx with
    | 0, hx =>
      injection hx with hx; subst hx
      have ra : RepQ (mE [a, b, c] [p, q]) (qv 0) a := rep_v (l := [a, b, c]) (i := 0)
      exact ⟨fun _ => 0, v, rfl, (one_rt ra rb rc).2 ⟨h.is, h.lim⟩⟩
    | 1, hx => injection hx with hx; subst hx; exact ⟨fun _ => 0, u, rfl, argRaw_holds hu rfl rfl⟩
  · rintro e w' ⟨β, y, rfl, hh, ex⟩
    rw [lfB_out hh]
    exact ⟨rfl, ex⟩
theorem rootSign_calls (w : World) (v u : Value) (p1 p2 p3 p4 p5 p6 q1 q2 : RI) (h : RawR w v p1 p2 p3 p4 p5 p6) (h' : RawQ w u q1.1 q1.2 q2.1 q2.2) : Calls Tryz.prog 5 #[v, u] w (IsTrue w) := by
  by_cases hc : smR p1 p2 p3 p4 p5 p6 = true
  · have hc' := hc
    unfold smR at hc'
    simp only [Bool.and_eq_true] at hc'
    obtain ⟨c1, c2, c3, c4⟩ := hc'
    obtain ⟨k1, k2⟩ := h.root c1 c2 c3
    cases hs : smN 4 q1 q2 with
    | true =>
      obtain ⟨i1, l1⟩ := smN_rat h' hs
      exact sign_small ⟨k1, k2, Rdb_iff.1 c4⟩ i1 l1
    | false => exact sign_other ⟨k1, k2, Rdb_iff.1 c4⟩ h' hs
  · have hs : RowSm (roE [p1, p2, p3, p4, p5, p6, q1, q2]) 25 (smRF 1) := by
      intro cs off x hx w bl hv
      unfold smRF at hx
      split at hx
      · rename_i hb
        injection hx with hx
        subst hx
        simp only [Bool.and_eq_true, beq_iff_eq] at hb
        obtain ⟨h1, h2, rfl⟩ := hb
        have hcs := isRaw_row h1
        rw [h2] at hcs
        have hcs' : cs = rowR 1 := hcs
        subst hcs'
        refine (smallR_row1 w bl hv).mono ?_
        rintro e w' ⟨y, rfl, hy, ex⟩
        have : y = false := by
          cases y with
          | false => rfl
          | true => exact absurd (hy.1 rfl 0 (by omega)) hc
        subst this
        exact ⟨rfl, ex⟩
      · cases hx
    refine (fun_sound (E := roE [p1, p2, p3, p4, p5, p6, q1, q2]) (T := lfB (.lit true)) (args := [.val true (rwC 0), argRaw 6 7]) mixed (cfgS_ok (cfg_ok (.cons kAw_ok .nil)) hs ⟨_, Tryz.func25, by decide +kernel, by kernel_rfl⟩) no_asm Tryz.func5 (by decide +kernel) (by kernel_rfl) (by decide +kernel) rfl w [v, u] rfl ?_).mono ?_
    · intro i x hx
      match i, hx with
      | 0, hx => injection hx with hx; subst hx; exact ⟨fun _ => 0, v, rfl, (one_rwC (i := 0)).2 h⟩
      | 1, hx => injection hx with hx; subst hx; exact ⟨fun _ => 0, u, rfl, argRaw_holds h' rfl rfl⟩
    · rintro e w' ⟨β, y, rfl, hh, ex⟩
      rw [lfB_out hh]
      exact ⟨rfl, ex⟩
/-- RootValid. -/
def gV (G : Asm) : Bool := G.find (.lt (.lit 4) (.rlen 4)) == some false && G.find (.lt (.lit 4) (.rlen 5)) == some false
noncomputable def tbVa : List (Nat × Con) := [(12, kTru), (13, kS4), (23, kV6 gV), (24, kV6 gV)]
theorem tbVa_ok (p1 p2 p3 p4 p5 p6 : RI) : TabOK Tryz.prog (srE p1 p2 p3 p4 p5 p6) tbVa := by
  have hg : ∀ G, gV G = true → G.holds (srE p1 p2 p3 p4 p5 p6) → p5.2.length ≤ 4 ∧ p6.2.length ≤ 4 := by
    intro G hg hG
    unfold gV at hg
    rw [Bool.and_eq_true, beq_iff_eq, beq_iff_eq] at hg
    have h1 := of_decide_eq_false (Asm.find_spec hG hg.1)
    have h2 := of_decide_eq_false (Asm.find_spec hG hg.2)
    have e1 : (IT.rlen 4).den (srE p1 p2 p3 p4 p5 p6) = (p5.2.length : Int) := rfl
    have e2 : (IT.rlen 5).den (srE p1 p2 p3 p4 p5 p6) = (p6.2.length : Int) := rfl
    rw [e1] at h1
    rw [e2] at h2
    simp only [IT.den] at h1 h2
    omega
  exact .cons kAw_ok (.cons (kS4_ok _ _ _ _ _ _) (.cons (kV6_ok hg (fun _ _ h h1 h2 b1 b2 => p_validR h h1 h2 b1 b2) ⟨_, Tryz.func23, by decide +kernel, by kernel_rfl⟩) (.cons (kV6_ok hg (fun _ _ h h1 h2 b1 b2 => r_validR h h1 h2 b1 b2) ⟨_, Tryz.func24, by decide +kernel, by kernel_rfl⟩) .nil)))
theorem rootValid_calls (w : World) (v : Value) (p1 p2 p3 p4 p5 p6 : RI) (h : RawR w v p1 p2 p3 p4 p5 p6) : Calls Tryz.prog 4 #[v] w (IsTrue w) := by
  refine (fun_sound (C := cfgOf tbVa) (E := srE p1 p2 p3 p4 p5 p6) (args := [.val true (rwC 0)])
    (T := .ite (.var 0) (.ite (.var 1) (.ite (.lt (.lit 4) (.rlen 4)) (lfB (.lit true)) (.ite (.lt (.lit 4) (.rlen 5)) (lfB (.lit true)) (.ite (.var 3) (lfB (.lit true)) (lfB (.lit true))))) (lfB (.lit true))) (lfB (.lit true)))
    mixed (cfg_ok (tbVa_ok _ _ _ _ _ _)) no_asm Tryz.func4 (by decide +kernel) (by kernel_rfl) (by decide +kernel) rfl w [v] rfl ?_).mono ?_
  · intro i x hx
    match i, hx with
    | 0, hx => injection hx with hx; subst hx; exact ⟨fun _ => 0, v, rfl, (one_rwC (i := 0)).2 h⟩
  · rintro e w' ⟨β, y, rfl, hh, ex⟩
    have fin : ∀ y, (toAV ((lfB (.lit true)).pick (srE p1 p2 p3 p4 p5 p6))).holds (srE p1 p2 p3 p4 p5 p6) β w' y → IsTrue w (.returned y) w' := by
      intro y hy
      rw [lfB_out hy]
      exact ⟨rfl, ex⟩
    simp only [Tree.pick] at hh
    split at hh
    · split at hh
      · split at hh
        · exact fin y hh
        · split at hh
          · exact fin y hh
          · split at hh <;> exact fin y hh
      · exact fin y hh
    · exact fin y hh
/-- RootMake. -/
def kSqX (b : Bool) : Con
  | [x], _ => match qOf x with
    | some (C, m) => if (C.1.beq (qv 2).1 && C.2.beq (qv 2).2) && decide (m ≤ 4) then some (if b then .tup [(true, [.int (qv 3).1 4, .int (qv 3).2 4]), (false, [.b (.lit true)])] else .tup [(true, [.int (.lit 0) 0, .int (.lit 0) 0]), (false, [.b (.lit false)])]) else none
    | none => none
  | _, _ => none
theorem kSqX_ok {a b c s : Rat} {x : Bool} (lc : LimQ 4 c) (hx : (sqB c.num && sqB (c.den : Int)) = x) (hs : x = true → s.num = isq c.num ∧ (s.den : Int) = isq (c.den : Int)) {f : Nat}
    (hc : ∀ (w : World) (v : Value) (n d : Int), IsPair w v n d → Lim 100000 n → Lim 100000 d → Calls Tryz.prog f #[v] w (RetSqQ n d w))
    (hb : ∃ fn, Tryz.prog.funcs[f]? = some fn ∧ fn.name ≠ "runtime.NumGoroutine" ∧ fn.body.isNone = false) : ConOK Tryz.prog (qE [a, b, c, s]) f (kSqX x) := by
  have rc : RepQ (qE [a, b, c, s]) (qv 2) c := rep_v (i := 2)
  have rs : RepQ (qE [a, b, c, s]) (qv 3) s := rep_v (i := 3)
  refine ⟨?_, ?_, hb⟩
  · intro args G r h hG β w vs hv hlen
    unfold kSqX at h
    split at h
    · split at h
      · rename_i y C m hy
        split at h
        · rename_i hcd
          simp only [Bool.and_eq_true, decide_eq_true_iff] at hcd
          injection h with h
          subst h
          obtain ⟨v, rfl, h1⟩ := args1 hv hlen
          obtain ⟨q, rq', iq, lq⟩ := qOf_spec (qE_ok _) hy h1
          have e1 : q.num = c.num := by rw [← rq'.1, ← rc.1, IT.eq_of_beq hcd.1.1]
          have e2 : (q.den : Int) = (c.den : Int) := by rw [← rq'.2, ← rc.2, IT.eq_of_beq hcd.1.2]
          have hp : IsPair w v c.num (c.den : Int) := by
            have h0 : IsPair w v q.num (q.den : Int) := iq
            rw [e1, e2] at h0
            exact h0
          refine (hc w v _ _ hp (lc.1.mono (by omega)) (lc.2.mono (by omega))).mono ?_
          rintro e w' ⟨u, rfl, hr, ex⟩
          unfold sqN at hr
          rw [hx] at hr ⊢
          cases x with
          | true =>
            obtain ⟨s1, s2⟩ := hs rfl
            rw [if_pos rfl, if_pos rfl, ← s1, ← s2] at hr
            exact ⟨_, rfl, ⟨[u, .bool true], rfl, u, _, rfl, (one_q rs).2 ⟨hr, by rw [s1]; exact isq_lim lc.1, by rw [s2]; exact isq_lim lc.2⟩, _, _, rfl, one_bool.2 rfl, rfl⟩, ex⟩
          | false =>
            rw [if_neg (by decide), if_neg (by decide)] at hr
            exact ⟨_, rfl, ⟨[u, .bool false], rfl, u, _, rfl, one_pair.2 ⟨hr, lim_zero, lim_zero⟩, _, _, rfl, one_bool.2 rfl, rfl⟩, ex⟩
        · cases h
      · cases h
    · cases h
  · intro args G r h y off
    unfold kSqX at h
    split at h
    · split at h
      · split at h
        · injection h with h; subst h; cases x <;> (intro e; cases e)
        · cases h
      · cases h
    · cases h
noncomputable def tbK (b : Bool) : List (Nat × Con) := [(13, kSmI), (59, kSqX b), (65, kSqX b)]
def mkA : IT2 := qop 0 (qv 0) (qop 2 (qv 1) (qv 3))
def mkT1 : Tree := .ite (.lt (sgt (qv 2)) (.lit 0)) (lfB (.lit true)) (.ite (zt (qv 1)) (.ite (rsT (qv 0) q0 q0 mkA q0 q0) (lfB (.and (.eq (qv 0).1 mkA.1) (.eq (qv 0).2 mkA.2))) (lfB (.lit false))) (lfB (.lit true)))
def mkT2 : Tree := .ite (.lt (sgt (qv 2)) (.lit 0)) (lfB (.lit true)) (.ite (zt (qv 1)) (lfB (.lit true)) (.ite (zt (qv 2)) (.ite (rsT (qv 0) (qv 1) (qv 2) (qv 0) q0 q0) (lfB (.lit false)) (lfB (.lit false))) (lfB (.lit true))))
theorem noRow {E : Env} : RowSm E 25 (fun _ _ => none) := fun _ _ _ h => by cases h
theorem make_small {w : World} {v1 v2 v3 : Value} {a b c : Rat} (h1 : IsRat w v1 a) (h2 : IsRat w v2 b) (h3 : IsRat w v3 c) (l1 : LimQ 4 a) (l2 : LimQ 4 b) (l3 : LimQ 4 c) : Calls Tryz.prog 3 #[v1, v2, v3] w (IsTrue w) := by
  have key : ∀ (x : Bool) (s : Rat) (T : Tree), (sqB c.num && sqB (c.den : Int)) = x → (x = true → s.num = isq c.num ∧ (s.den : Int) = isq (c.den : Int)) → funE (cL (tbK x) (fun _ _ => none)) Tryz.f3 [] [aQl 0 4, aQl 1 4, aQl 2 4] = some T →
      (∀ β w' y, Ext w w' → (toAV (T.pick (qE [a, b, c, s]))).holds (qE [a, b, c, s]) β w' y → IsTrue w (.returned y) w') → Calls Tryz.prog 3 #[v1, v2, v3] w (IsTrue w) := by
    intro x s T hx hs hT hfin
    refine (fun_sound (E := qE [a, b, c, s]) mixed (cL_ok (tab := tbK x) (qE_ok _) (.cons (kSmI_ok (qE_ok _)) (.cons (kSqX_ok l3 hx hs (fun w v n d h l m => sqrtQ_calls w v n d h l m) ⟨_, Tryz.func59, by decide +kernel, by kernel_rfl⟩)
      (.cons (kSqX_ok l3 hx hs (fun w v n d h l m => rsqrtQ_calls w v n d h l m) ⟨_, Tryz.func65, by decide +kernel, by kernel_rfl⟩) .nil))) noRow) no_asm Tryz.func3 (by decide +kernel) hT (by decide +kernel) rfl w [v1, v2, v3] rfl ?_).mono ?_
    · intro i t ht
      match i, ht with
      | 0, ht => injection ht with ht; subst ht; exact ⟨fun _ => 0, v1, rfl, aQl_holds (i := 0) h1 l1⟩
      | 1, ht => injection ht with ht; subst ht; exact ⟨fun _ => 0, v2, rfl, aQl_holds (i := 1) h2 l2⟩
      | 2, ht => injection ht with ht; subst ht; exact ⟨fun _ => 0, v3, rfl, aQl_holds (i := 2) h3 l3⟩
    · rintro e w' ⟨β, y, rfl, hh, ex⟩
      exact hfin β w' y ex hh
  cases hx : (sqB c.num && sqB (c.den : Int)) with
  | true =>
    have hx' := hx
    rw [Bool.and_eq_true] at hx'
    obtain ⟨s, s1, s2⟩ := root_rat hx'.1 hx'.2
    refine key true s mkT1 hx (fun _ => ⟨s1, s2⟩) (by kernel_rfl) ?_
    intro β w' y ex hh
    have ra : RepQ (qE [a, b, c, s]) (qv 0) a := rep_v (i := 0)
    have rb : RepQ (qE [a, b, c, s]) (qv 1) b := rep_v (i := 1)
    have rc : RepQ (qE [a, b, c, s]) (qv 2) c := rep_v (i := 2)
    have rs : RepQ (qE [a, b, c, s]) (qv 3) s := rep_v (i := 3)
    have rm : RepQ (qE [a, b, c, s]) mkA (a + b * s) := rep_add ra (rep_mul rb rs)
    unfold mkT1 at hh
    rw [ite_pick (ltz_den rc), ite_pick (zt_den rb)] at hh
    by_cases hc : c < 0
    · rw [decide_eq_true hc, if_pos rfl] at hh
      rw [lfB_out hh]; exact ⟨rfl, ex⟩
    · rw [decide_eq_false hc, if_neg (by decide)] at hh
      by_cases hb : b = 0
      · rw [decide_eq_true hb, if_pos rfl] at hh
        have e : a = a + b * s := by rw [hb]; grind
        have t1 : (rsT (qv 0) q0 q0 mkA q0 q0).den (qE [a, b, c, s]) = true := rs_true ra rep_0 rep_0 rm rep_0 rep_0 e rfl rfl
        rw [ite_pick t1, if_pos rfl] at hh
        rw [lfB_out hh]
        exact isT ex (by rw [eq_parts ra rm, decide_eq_true e])
      · rw [decide_eq_false hb, if_neg (by decide)] at hh
        rw [lfB_out hh]; exact ⟨rfl, ex⟩
  | false =>
    refine key false 0 mkT2 hx (fun h => by cases h) (by kernel_rfl) ?_
    intro β w' y ex hh
    have ra : RepQ (qE [a, b, c, 0]) (qv 0) a := rep_v (i := 0)
    have rb : RepQ (qE [a, b, c, 0]) (qv 1) b := rep_v (i := 1)
    have rc : RepQ (qE [a, b, c, 0]) (qv 2) c := rep_v (i := 2)
    unfold mkT2 at hh
    rw [ite_pick (ltz_den rc), ite_pick (zt_den rb), ite_pick (zt_den rc)] at hh
    by_cases hc : c < 0
    · rw [decide_eq_true hc, if_pos rfl] at hh
      rw [lfB_out hh]; exact ⟨rfl, ex⟩
    · rw [decide_eq_false hc, if_neg (by decide)] at hh
      by_cases hb : b = 0
      · rw [decide_eq_true hb, if_pos rfl] at hh
        rw [lfB_out hh]; exact ⟨rfl, ex⟩
      · rw [decide_eq_false hb, if_neg (by decide)] at hh
        have h0 : c ≠ 0 := fun e => by
          subst e
          have : (sqB (0 : Rat).num && sqB (((0 : Rat).den : Nat) : Int)) = true := by decide +kernel
          rw [this] at hx; cases hx
        rw [decide_eq_false h0, if_neg (by decide)] at hh
        rw [lfB_out hh]; exact ⟨rfl, ex⟩
noncomputable def tbMr : List (Nat × Con) := [(12, kTru), (13, kS4)]
theorem rootMake_calls (w : World) (v1 v2 v3 : Value) (p1 p2 p3 p4 p5 p6 : RI) (h1 : RawQ w v1 p1.1 p1.2 p2.1 p2.2) (h2 : RawQ w v2 p3.1 p3.2 p4.1 p4.2) (h3 : RawQ w v3 p5.1 p5.2 p6.1 p6.2) : Calls Tryz.prog 3 #[v1, v2, v3] w (IsTrue w) := by
  have go : ∀ (G : Asm), G.holds (srE p1 p2 p3 p4 p5 p6) → funE (cfgOf tbMr) Tryz.f3 G [argRaw 0 1, argRaw 2 3, argRaw 4 5] = some (lfB (.lit true)) → Calls Tryz.prog 3 #[v1, v2, v3] w (IsTrue w) := by
    intro G hG hT
    refine (fun_sound mixed (cfg_ok (.cons kAw_ok (.cons (kS4_ok p1 p2 p3 p4 p5 p6) .nil))) hG Tryz.func3 (by decide +kernel) hT (by decide +kernel) rfl w [v1, v2, v3] rfl ?_).mono ?_
    · intro i t ht
      match i, ht with
      | 0, ht => injection ht with ht; subst ht; exact ⟨fun _ => 0, v1, rfl, argRaw_holds h1 rfl rfl⟩
      | 1, ht => injection ht with ht; subst ht; exact ⟨fun _ => 0, v2, rfl, argRaw_holds h2 rfl rfl⟩
      | 2, ht => injection ht with ht; subst ht; exact ⟨fun _ => 0, v3, rfl, argRaw_holds h3 rfl rfl⟩
    · rintro e w' ⟨β, y, rfl, hh, ex⟩
      rw [lfB_out hh]; exact ⟨rfl, ex⟩
  cases s1 : smN 4 p1 p2 with
  | false => exact go [(.var 0, false)] (asm_and s1 asm_nil) (by kernel_rfl)
  | true =>
    cases s2 : smN 4 p3 p4 with
    | false => exact go [(.var 0, true), (.var 1, false)] (asm_and s1 (asm_and s2 asm_nil)) (by kernel_rfl)
    | true =>
      cases s3 : smN 4 p5 p6 with
      | false => exact go [(.var 0, true), (.var 1, true), (.var 2, false)] (asm_and s1 (asm_and s2 (asm_and s3 asm_nil))) (by kernel_rfl)
      | true =>
        obtain ⟨i1, l1⟩ := smN_rat h1 s1
        obtain ⟨i2, l2⟩ := smN_rat h2 s2
        obtain ⟨i3, l3⟩ := smN_rat h3 s3
        exact make_small i1 i2 i3 l1 l2 l3
end Go.Proofs.YtdblkeeicmncfaaGreat
end

/- ---- Lift ---- -/
section
/-
  How an argument that is a struct of a bool and a slice of uint32 is read.
-/
set_option maxRecDepth 100000
namespace Go.Proofs.YtdblkeeicmncfaaGreat
open Go.ChangeShapes Go.WideShapes Go.ChangeAt Go.RowKit Go.Joins

theorem own : ownKnob Tryz.prog.godebug = none := by kernel_rfl
theorem laidOut : laidOutB Tryz.prog = true := by kernel_rfl

theorem open_cells {H : Type} {enc : TypeId × Value → H} {W : World} {base : Nat} {spare : Nat → Bool} {held : Bool} {v0 v1 : Value} {y0 y1 : DataW H × List MemPlace} {n : Nat}
    (h0 : DataW.trod enc Tryz.prog W base spare held n 4 [v0] = some y0) (h1 : DataW.trod enc Tryz.prog W base spare held n 22 [v1] = some y1) : ∃ neg xs, Raw W (.agg #[v0, v1]) neg xs := by
  obtain ⟨b, hb0, _⟩ := DataW.trod_bool Tryz.underlying4 h0
  simp only [List.cons.injEq, and_true] at hb0
  subst hb0
  rcases open_ints Tryz.underlying22 Tryz.underlying112 (by kernel_rfl) h1 with ⟨hcs, _⟩ | ⟨x, l, c, zs, hcs, _, hl, hm, hz, _, hcell, hwz⟩
  · simp only [List.cons.injEq, and_true] at hcs
    subst hcs
    exact ⟨b, [], none, 0, rfl, by simp, by omega, Cells.nil _ _⟩
  · simp only [List.cons.injEq, and_true] at hcs
    subst hcs
    have hlz : l ≤ zs.length := by rw [hz]; split <;> omega
    have hlen : ((zs.take l).map Int.toNat).length = l := by simp [hlz]
    refine ⟨b, (zs.take l).map Int.toNat, some x, c, by rw [hlen], by rw [hlen]; exact hl, by unfold maxLen at hm; omega, ?_⟩
    rcases Nat.eq_zero_or_pos l with h0 | h0
    · exact .inl (List.eq_nil_of_length_eq_zero (by rw [hlen]; exact h0))
    · obtain ⟨bb, off, rfl, hc⟩ := ints_at hcell (by omega)
      refine .inr ⟨bb, off, rfl, fun i hi => ?_⟩
      rw [hlen] at hi
      rw [hc i (by omega)]
      have hmem : zs.getD i 0 ∈ zs := by
        rw [List.getD_eq_getElem?_getD, List.getElem?_eq_getElem (by omega)]
        exact List.getElem_mem _
      have hw := hwz _ hmem
      have hb2 : 0 ≤ zs.getD i 0 := by
        have : 0 ≤ zs.getD i 0 ∧ zs.getD i 0 ≤ 4294967295 := by simpa [Lit.wf, IntKind.min, IntKind.max, IntKind.signed, IntKind.bits] using hw
        exact this.1
      have he : ((zs.take l).map Int.toNat).getD i 0 = (zs.getD i 0).toNat := by
        simp only [List.getD_eq_getElem?_getD, List.getElem?_map, List.getElem?_take]
        rw [if_pos hi]
        rw [List.getElem?_eq_getElem (by omega)]
        rfl
      rw [he]
      congr 2
      omega

theorem open_arg {H : Type} {enc : TypeId × Value → H} {W : World} {b0 base : Nat} {spare : Nat → Bool} {held : Bool} {r : Reach} {v : Value} {d : DataW H} {p : List MemPlace}
    (hv : Value.okWide Tryz.prog W r b0 24 v) (h : DataW.Trod enc Tryz.prog W base spare held 24 v d p) : ∃ neg xs, Raw W v neg xs := by
  obtain ⟨v0, v1, y0, y1, n, rfl, rfl, rfl, h0, h1⟩ := open_agg2 Tryz.underlying24 (by kernel_rfl) (by kernel_rfl) hv h
  exact open_cells h0 h1

end Go.Proofs.YtdblkeeicmncfaaGreat
end

/- ---- Liftr ---- -/
section
/-
  How arguments that are rational numbers, or roots, are read.
-/
set_option maxRecDepth 100000
namespace Go.Proofs.YtdblkeeicmncfaaGreat
open Go.ChangeShapes Go.WideShapes Go.ChangeAt Go.RowKit Go.Joins

theorem open_two {H : Type} {enc : TypeId × Value → H} {W : World} {base : Nat} {spare : Nat → Bool} {held : Bool} {v0 v1 : Value} {y : DataW H × List MemPlace} {n : Nat}
    (h : DataW.trod enc Tryz.prog W base spare held n 24 [v0, v1] = some y) : ∃ neg xs, Raw W (.agg #[v0, v1]) neg xs := by
  obtain ⟨y0, y1, n, hx, _, h0, h1⟩ := trod_struct2 Tryz.underlying24 h
  have cb : Tryz.prog.cellsOf 4 = 1 := by kernel_rfl
  have cs : Tryz.prog.cellsOf 22 = 1 := by kernel_rfl
  exact open_cells (v0 := v0) (v1 := v1) (by simpa [cb] using h0) (by simpa [cs] using h1)
theorem open_rat4 {H : Type} {enc : TypeId × Value → H} {W : World} {base : Nat} {spare : Nat → Bool} {held : Bool} {c0 c1 c2 c3 : Value} {y : DataW H × List MemPlace} {n : Nat}
    (h : DataW.trod enc Tryz.prog W base spare held n 26 [c0, c1, c2, c3] = some y) : ∃ p q : RI, RawQ W (.agg #[c0, c1, c2, c3]) p.1 p.2 q.1 q.2 := by
  have k2 : Tryz.prog.cellsOf 24 = 2 := by kernel_rfl
  obtain ⟨y0, y1, n, hx, _, h0, h1⟩ := trod_struct2 Tryz.underlying26 h
  obtain ⟨s1, xs1, w1⟩ := open_two (v0 := c0) (v1 := c1) (by simpa [Value.cells, k2] using h0)
  obtain ⟨s2, xs2, w2⟩ := open_two (v0 := c2) (v1 := c3) (by simpa [Value.cells, k2] using h1)
  exact ⟨(s1, xs1), (s2, xs2), c0, c1, c2, c3, rfl, w1, w2⟩
theorem arr4 {cs : Array Value} (h : cs.size = 4) : ∃ c0 c1 c2 c3, cs = #[c0, c1, c2, c3] := by
  obtain ⟨l⟩ := cs
  have h' : l.length = 4 := h
  match l, h' with
  | [c0, c1, c2, c3], _ => exact ⟨c0, c1, c2, c3, rfl⟩
theorem arr12 {cs : Array Value} (h : cs.size = 12) : ∃ c0 c1 c2 c3 c4 c5 c6 c7 c8 c9 c10 c11, cs = #[c0, c1, c2, c3, c4, c5, c6, c7, c8, c9, c10, c11] := by
  obtain ⟨l⟩ := cs
  have h' : l.length = 12 := h
  match l, h' with
  | [c0, c1, c2, c3, c4, c5, c6, c7, c8, c9, c10, c11], _ => exact ⟨c0, c1, c2, c3, c4, c5, c6, c7, c8, c9, c10, c11, rfl⟩
theorem open_rq {H : Type} {enc : TypeId × Value → H} {W : World} {b0 base : Nat} {spare : Nat → Bool} {held : Bool} {r : Reach} {v : Value} {d : DataW H} {p : List MemPlace}
    (hv : Value.okWide Tryz.prog W r b0 26 v) (h : DataW.Trod enc Tryz.prog W base spare held 26 v d p) : ∃ p q : RI, RawQ W v p.1 p.2 q.1 q.2 := by
  obtain ⟨cs, rfl, hsz⟩ := okWide_struct Tryz.underlying26 hv
  have c4 : Tryz.prog.cellsOf 26 = 4 := by kernel_rfl
  obtain ⟨c0, c1, c2, c3, rfl⟩ := arr4 (hsz.trans c4)
  obtain ⟨fuel, hf⟩ := h
  exact open_rat4 (by simpa [Value.cells] using hf)
theorem open_root {H : Type} {enc : TypeId × Value → H} {W : World} {b0 base : Nat} {spare : Nat → Bool} {held : Bool} {r : Reach} {v : Value} {d : DataW H} {p : List MemPlace}
    (hv : Value.okWide Tryz.prog W r b0 30 v) (h : DataW.Trod enc Tryz.prog W base spare held 30 v d p) : ∃ p1 p2 p3 p4 p5 p6 : RI, RawR W v p1 p2 p3 p4 p5 p6 := by
  obtain ⟨cs, rfl, hsz⟩ := okWide_struct Tryz.underlying30 hv
  have c12 : Tryz.prog.cellsOf 30 = 12 := by kernel_rfl
  have k4 : Tryz.prog.cellsOf 26 = 4 := by kernel_rfl
  obtain ⟨c0, c1, c2, c3, c4, c5, c6, c7, c8, c9, c10, c11, rfl⟩ := arr12 (hsz.trans c12)
  obtain ⟨fuel, hf⟩ := h
  obtain ⟨xs, n, _, _, _, hlen, hfl⟩ := DataW.trod_struct Tryz.underlying30 hf
  match xs, hlen with
  | [y0, y1, y2], _ =>
    have h0 := hfl 0 _ rfl
    have h1 := hfl 1 _ rfl
    have h2 := hfl 2 _ rfl
    obtain ⟨p1, p2, w1⟩ := open_rat4 (c0 := c0) (c1 := c1) (c2 := c2) (c3 := c3) (y := y0) (by simpa [Value.cells, k4] using h0)
    obtain ⟨p3, p4, w2⟩ := open_rat4 (c0 := c4) (c1 := c5) (c2 := c6) (c3 := c7) (y := y1) (by simpa [Value.cells, k4] using h1)
    obtain ⟨p5, p6, w3⟩ := open_rat4 (c0 := c8) (c1 := c9) (c2 := c10) (c3 := c11) (y := y2) (by simpa [Value.cells, k4] using h2)
    exact ⟨p1, p2, p3, p4, p5, p6, [c0, c1, c2, c3], [c4, c5, c6, c7], [c8, c9, c10, c11], rfl, w1, w2, w3⟩
end Go.Proofs.YtdblkeeicmncfaaGreat
end

/- ---- Rtq ---- -/
section
/-
  RootEnclose.
-/
set_option maxRecDepth 100000
namespace Go.Proofs.YtdblkeeicmncfaaGreat
open Go.RowKit

/-- Powers of two: the program's. -/
def litV : IT → Option Int
  | .lit z => some z
  | .a2 f x y => if f = 2 then (litV x).bind fun a => (litV y).bind fun b => some (a * b) else none
  | _ => none
theorem litV_spec {E : Env} : ∀ {t : IT} {z : Int}, litV t = some z → t.den E = z := by
  intro t
  induction t with
  | lit z => intro y h; injection h
  | a2 f x y ihx ihy =>
    intro z h
    simp only [litV] at h
    split at h
    · rename_i hf
      subst hf
      rw [Option.bind_eq_some_iff] at h
      obtain ⟨a, hx, h⟩ := h
      rw [Option.bind_eq_some_iff] at h
      obtain ⟨b, hy, h⟩ := h
      injection h with h
      show IT.den E _ * IT.den E _ = z
      rw [ihx hx, ihy hy, h]
    · cases h
  | _ => intro z h; cases h
noncomputable def p2ok (n : Nat) : Bool := match funE (cR []) Tryz.f102 [] [.val false [.n .i64 (.lit (n : Int))]] with
  | some (.leaf [(true, [.int t _])]) => litV t == some ((2 : Int) ^ n)
  | _ => false
theorem p2ok_all : (List.range 257).all p2ok = true := by kernel_rfl
theorem p2_calls (w : World) {n : Nat} (hn : n ≤ 256) : Calls Tryz.prog 102 #[.int .i64 (n : Int)] w (Ret (fun x w' => IsInt w' x ((2 : Int) ^ n)) w) := by
  have h := List.all_eq_true.1 p2ok_all n (List.mem_range.2 (by omega))
  unfold p2ok at h
  split at h
  · rename_i t l hf
    have ht := eq_of_beq h
    refine (fun_sound (E := qE []) (G := []) mixed (cR_ok (tab := []) (qE_ok _) .nil) no_asm Tryz.func102 (by decide +kernel) hf (show 1 ≤ Tryz.f102.ntmps by decide +kernel) rfl w [.int .i64 (n : Int)] rfl ?_).mono ?_
    · intro i x hx
      match i, hx with
      | 0, hx => injection hx with hx; subst hx; exact ⟨fun _ => 0, _, rfl, one_num.2 rfl⟩
    · rintro e w' ⟨β, y, rfl, hh, ex⟩
      refine ⟨y, rfl, ?_, ex⟩
      have := (one_int.1 hh).1
      rwa [litV_spec ht] at this
  · cases h
/-- The reference's. -/
def ewE (n i : Nat) : Env := qE [((n : Int) : Rat), ((i : Int) : Rat), (((2 : Int) ^ i : Int) : Rat)]
def pwI : LInv where
  lk := [(2, .ptr 2 0), (3, .ptr 3 0), (0, .val false [.n .i64 (.var 0)]), (4, .val false [.n .i64 (.var 2)])]
  vr := [(2, [.int (.lit 0) 0, .int (.lit 0) 0]), (3, [.int (.var 4) 10, .int (.var 5) 10])]
  vs := [2, 4, 5]
  G := []
  lm := [(4, 10), (5, 10)]
def pwAg : List IT := [.a1 20 (.a2 0 (.var 2) (.lit 1)), (qop 0 (qv 2) (qv 2)).1, (qop 0 (qv 2) (qv 2)).2]
def pwLeaf : List (Bool × List Chunk) := [(true, [.int (.var 4) 10, .int (.var 5) 10])]
def pwTree : LTree := .ite (.lt (.var 2) (.var 0)) (.again 0 pwAg) (.leaf pwLeaf)
def GoodP (n : Nat) (E : Env) : Prop := ∃ i, i ≤ n ∧ E = ewE n i
theorem lim_2 {n : Nat} (h : n ≤ 256) : Lim 9 ((2 : Int) ^ n) := by
  refine limbs_len_le ?_
  have h1 : (2 : Int) ^ n = ((2 ^ n : Nat) : Int) := by rw [Int.natCast_pow]; rfl
  rw [h1, Int.natAbs_natCast]
  exact Nat.lt_of_le_of_lt (Nat.pow_le_pow_right (by decide) h) (by decide +kernel)
theorem ewE_0 (n i : Nat) : (ewE n i).i 0 = (n : Int) := Rat.num_intCast _
theorem ewE_2 (n i : Nat) : (ewE n i).i 2 = (i : Int) := Rat.num_intCast _
theorem ewE_upd (n i j : Nat) (x : Rat) (hx : x = (((2 : Int) ^ j : Int) : Rat)) : (ewE n i).upd [2, 4, 5] [(j : Int), x.num, (x.den : Int)] = ewE n j := by
  subst hx
  unfold Env.upd ewE qE
  congr 1
  funext k
  match k with
  | 0 | 1 | 4 | 5 => rfl
  | 2 => exact (Rat.num_intCast (j : Int)).symm
  | 3 =>
    show ((((i : Int) : Rat)).den : Int) = ((((j : Int) : Rat)).den : Int)
    rw [Rat.den_intCast, Rat.den_intCast]
  | k + 6 =>
    have e1 : (k + 6) / 2 = k / 2 + 3 := by omega
    simp [updI, e1]
theorem pw_step {i : Nat} : (((2 : Int) ^ i : Int) : Rat) + (((2 : Int) ^ i : Int) : Rat) = (((2 : Int) ^ (i + 1) : Int) : Rat) := by
  rw [← Rat.intCast_add, Int.pow_succ, Int.mul_comm, Int.two_mul]
theorem pw_run {n : Nat} (hn : n ≤ 256) : ∀ (k i : Nat), i + k = n → ∃ m, Run (GoodP n) (noStk.set 0 (pwI, pwTree)) pwTree (ewE n i) m (ewE n n) pwLeaf := by
  intro k
  induction k with
  | zero =>
    intro i hi
    obtain rfl : i = n := by omega
    refine ⟨0, .iteF ?_ .leaf⟩
    show decide ((ewE i i).i 2 < (ewE i i).i 0) = false
    rw [ewE_2, ewE_0, decide_eq_false_iff_not]; omega
  | succ k ih =>
    intro i hi
    obtain ⟨m, hR⟩ := ih (i + 1) (by omega)
    have r2 : RepQ (ewE n i) (qv 2) (((2 : Int) ^ i : Int) : Rat) := rep_v (i := 2)
    have ra := rep_add r2 r2
    rw [pw_step] at ra
    have hval : pwAg.map (IT.den (ewE n i)) = [((i + 1 : Nat) : Int), ((((2 : Int) ^ (i + 1) : Int) : Rat)).num, (((((2 : Int) ^ (i + 1) : Int) : Rat)).den : Int)] := by
      have e0 : IntKind.i64.wrap ((i : Int) + 1) = ((i + 1 : Nat) : Int) := by rw [IntWalk.i64_in _ (by omega)]; omega
      show [IntKind.i64.wrap ((ewE n i).i 2 + 1), (qop 0 (qv 2) (qv 2)).1.den (ewE n i), (qop 0 (qv 2) (qv 2)).2.den (ewE n i)] = _
      rw [ewE_2, e0, ra.1, ra.2]
    have hup : (ewE n i).upd pwI.vs (pwAg.map (IT.den (ewE n i))) = ewE n (i + 1) := by
      rw [hval]
      exact ewE_upd n i (i + 1) _ rfl
    refine ⟨m + 1, .iteT ?_ (.again (I := pwI) (T := pwTree) (by simp [Stk.set]) ⟨?_, ?_, ?_⟩ ?_)⟩
    · show decide ((ewE n i).i 2 < (ewE n i).i 0) = true
      rw [ewE_2, ewE_0, decide_eq_true_iff]; omega
    · exact no_asm
    · rw [hup]; exact ⟨i + 1, by omega, rfl⟩
    · rw [hup]
      intro p hp
      simp only [pwI, List.mem_cons, List.not_mem_nil, or_false] at hp
      rcases hp with rfl | rfl
      · show Lim 10 (((((2 : Int) ^ (i + 1) : Int) : Rat)).num)
        rw [Rat.num_intCast]
        exact (lim_2 (by omega)).mono (by omega)
      · show Lim 10 (((((2 : Int) ^ (i + 1) : Int) : Rat)).den : Int)
        rw [Rat.den_intCast]
        exact (lim1 (z := 1) (by decide)).mono (by omega)
    · rw [hup]; exact hR
theorem pw_calls (w : World) {n : Nat} (hn : n ≤ 256) : Calls Tryz.prog 53 #[.int .i64 (n : Int)] w (Ret (fun x w' => IsRat w' x (((2 : Int) ^ n : Int) : Rat)) w) := by
  obtain ⟨m, hR⟩ := pw_run hn n 0 (by omega)
  refine (loops_sound (Good := GoodP n) (C := cR []) (L := fun _ => some pwI) (E := ewE n 0) (G := []) (args := [.val false [.n .i64 (.var 0)]]) (T := .loop 0 pwI [.lit 0, .lit 1, .lit 1] pwTree) (l := pwLeaf) (E' := ewE n n) (m := m)
    mixed (fun E ⟨i, _, hE⟩ => by rw [hE]; exact cR_ok (qE_ok _) .nil) no_asm ⟨0, by omega, rfl⟩ Tryz.func53 (by decide +kernel) (by kernel_rfl) (by decide +kernel) rfl ?_ w [.int .i64 (n : Int)] rfl ?_).mono ?_
  · have hval : [IT.lit 0, .lit 1, .lit 1].map (IT.den (ewE n 0)) = [((0 : Nat) : Int), ((((2 : Int) ^ 0 : Int) : Rat)).num, (((((2 : Int) ^ 0 : Int) : Rat)).den : Int)] := rfl
    have hup : (ewE n 0).upd pwI.vs ([IT.lit 0, .lit 1, .lit 1].map (IT.den (ewE n 0))) = ewE n 0 := by
      rw [hval]
      exact ewE_upd n 0 0 _ rfl
    refine .loop ⟨no_asm, ?_, ?_⟩ ?_
    · rw [hup]; exact ⟨0, by omega, rfl⟩
    · rw [hup]
      intro p hp
      simp only [pwI, List.mem_cons, List.not_mem_nil, or_false] at hp
      rcases hp with rfl | rfl
      · exact (lim1 (z := 1) (by decide)).mono (by omega)
      · exact (lim1 (z := 1) (by decide)).mono (by omega)
    · rw [hup]; exact hR
  · intro i x hx
    match i, hx with
    | 0, hx =>
      injection hx with hx
      subst hx
      refine ⟨fun _ => 0, _, rfl, one_num.2 ?_⟩
      show _ = Value.int .i64 ((ewE n 0).i 0)
      rw [ewE_0]
  · rintro e w' ⟨β, y, rfl, hh, ex⟩
    exact ⟨y, rfl, ((one_q (A := qv 2) (a := (((2 : Int) ^ n : Int) : Rat)) (rep_v (i := 2))).1 hh).1, ex⟩
end Go.Proofs.YtdblkeeicmncfaaGreat
end

/- ---- Rtr ---- -/
section
/-
  RootEnclose: the law.
-/
set_option maxRecDepth 100000
namespace Go.Proofs.YtdblkeeicmncfaaGreat
open Go.RowKit

def eE (a b c : Rat) (n : Nat) : Env := qE [a, b, c, (((2 : Int) ^ n : Int) : Rat), ((n : Int) : Rat)]
theorem eE_6 (a b c : Rat) (n : Nat) : (eE a b c n).i 6 = (2 : Int) ^ n := Rat.num_intCast _
theorem eE_8 (a b c : Rat) (n : Nat) : (eE a b c n).i 8 = (n : Int) := Rat.num_intCast _
def kP2 : Con
  | [.val false [.n .i64 (.var z)]], _ => if z = 8 then some (.val true [.int (.var 6) 9]) else none
  | _, _ => none
def kPw : Con
  | [.val false [.n .i64 (.var z)]], _ => if z = 8 then some (.val true [.int (.var 6) 9, .int (.lit 1) 1]) else none
  | _, _ => none
def kMkP : Con
  | [.val true [.int x l], .val true [.int (.var z) m]], _ => if z = 6 then (if lo l && lo m then some (.tup [(true, [.int (.a2 7 x (.var 6)) l, .int (.a2 8 x (.var 6)) m]), (false, [.n .i64 (.lit 0)])]) else none) else none
  | _, _ => none
theorem kP2_ok {a b c : Rat} {n : Nat} (hn : n ≤ 256) : ConOK Tryz.prog (eE a b c n) 102 kP2 := by
  refine ⟨?_, ?_, ⟨_, Tryz.func102, by decide +kernel, by kernel_rfl⟩⟩
  · intro args G r h hG β w vs hv hlen
    unfold kP2 at h
    split at h
    · rename_i z
      split at h
      · rename_i hz
        subst hz
        injection h with h
        subst h
        obtain ⟨v, rfl, h1⟩ := args1 hv hlen
        have h1' : v = .int .i64 ((eE a b c n).i 8) := one_num.1 h1
        rw [eE_8] at h1'
        subst h1'
        refine (p2_calls w hn).mono ?_
        rintro e w' ⟨x, rfl, hI, ex⟩
        refine ⟨_, rfl, one_int.2 ?_, ex⟩
        show IsInt w' x ((eE a b c n).i 6) ∧ Lim 9 ((eE a b c n).i 6)
        rw [eE_6]
        exact ⟨hI, lim_2 hn⟩
      · cases h
    · cases h
  · intro args G r h x off
    unfold kP2 at h
    split at h
    · split at h
      · injection h with h; subst h; intro e; cases e
      · cases h
    · cases h
theorem kPw_ok {a b c : Rat} {n : Nat} (hn : n ≤ 256) : ConOK Tryz.prog (eE a b c n) 53 kPw := by
  refine ⟨?_, ?_, ⟨_, Tryz.func53, by decide +kernel, by kernel_rfl⟩⟩
  · intro args G r h hG β w vs hv hlen
    unfold kPw at h
    split at h
    · rename_i z
      split at h
      · rename_i hz
        subst hz
        injection h with h
        subst h
        obtain ⟨v, rfl, h1⟩ := args1 hv hlen
        have h1' : v = .int .i64 ((eE a b c n).i 8) := one_num.1 h1
        rw [eE_8] at h1'
        subst h1'
        refine (pw_calls w hn).mono ?_
        rintro e w' ⟨x, rfl, hI, ex⟩
        have rp : RepQ (eE a b c n) (.var 6, .lit 1) (((2 : Int) ^ n : Int) : Rat) := rep_it (eE_6 a b c n)
        refine ⟨_, rfl, (one_q rp).2 ⟨hI, ?_, ?_⟩, ex⟩
        · rw [Rat.num_intCast]; exact lim_2 hn
        · rw [Rat.den_intCast]; exact lim1 (z := 1) (by decide)
      · cases h
    · cases h
  · intro args G r h x off
    unfold kPw at h
    split at h
    · split at h
      · injection h with h; subst h; intro e; cases e
      · cases h
    · cases h
theorem pow_ne (n : Nat) : (2 : Int) ^ n ≠ 0 := Int.pow_ne_zero (by decide)
theorem kMkP_ok {a b c : Rat} {n : Nat} : ConOK Tryz.prog (eE a b c n) 104 kMkP := by
  refine ⟨?_, ?_, ⟨_, Tryz.func104, by decide +kernel, by kernel_rfl⟩⟩
  · intro args G r h hG β w vs hv hlen
    unfold kMkP at h
    split at h
    · rename_i x l z m
      split at h
      · rename_i hz
        subst hz
        split at h
        · rename_i hcd
          simp only [lo, Bool.and_eq_true, decide_eq_true_iff] at hcd
          injection h with h
          subst h
          obtain ⟨v, u, rfl, h1, h2⟩ := args2 hv hlen
          obtain ⟨i1, l1⟩ := one_int.1 h1
          obtain ⟨i2, l2⟩ := one_int.1 h2
          have i2' : IsInt w u ((eE a b c n).i 6) := i2
          have l2' : Lim m ((eE a b c n).i 6) := l2
          refine (make_calls w v u _ _ i1 i2' (l1.mono hcd.1) (l2'.mono hcd.2)).mono ?_
          rintro e w' ⟨x0, x1, x2, x3, rfl, k1, k2, ex⟩
          have hne : (eE a b c n).i 6 ≠ 0 := by rw [eE_6]; exact pow_ne n
          have ed : de ((eE a b c n).i 6) = 0 := if_neg hne
          have e2 : denZ (x.den (eE a b c n)) ((eE a b c n).i 6) = ((Rat.divInt (x.den (eE a b c n)) ((eE a b c n).i 6)).den : Int) := if_neg hne
          rw [e2] at k2
          obtain ⟨m1, m2⟩ := divInt_lim l1 l2' hne
          rw [ed]
          exact ⟨_, rfl, ⟨[.agg #[x0, x1, x2, x3], .int .i64 0], rfl, _, _, rfl, one_pair.2 ⟨⟨x0, x1, x2, x3, rfl, k1, k2⟩, m1, m2⟩, _, _, rfl, one_num.2 rfl, rfl⟩, ex⟩
        · cases h
      · cases h
    · cases h
  · intro args G r h x off
    unfold kMkP at h
    split at h
    · split at h
      · split at h
        · injection h with h; subst h; intro e; cases e
        · cases h
      · cases h
    · cases h
noncomputable def tbE : List (Nat × Con) := [(102, kP2), (53, kPw), (104, kMkP)]
theorem tbE_ok {a b c : Rat} {n : Nat} (hn : n ≤ 256) : TabOK Tryz.prog (eE a b c n) tbE := .cons (kP2_ok hn) (.cons (kPw_ok hn) (.cons kMkP_ok .nil))
noncomputable def lwE : List (Nat × Func) := [(48, Tryz.f48), (45, Tryz.f45)]
theorem lwE_ok : InlOK Tryz.prog lwE := .cons Tryz.func48 (by decide +kernel) (by kernel_rfl) <| .cons Tryz.func45 (by decide +kernel) (by kernel_rfl) .nil
noncomputable def cE (tab : List (Nat × Con)) (sm : List Chunk → Nat → Option Bool) : Cfg := cfgS 25 sm (cfgI (cL1 tab) (cL1 tab) lwE)
theorem cE_ok {E : Env} (hE : QEnv E) {tab : List (Nat × Con)} (h : TabOK Tryz.prog E tab) {sm : List Chunk → Nat → Option Bool} (hs : RowSm E 25 sm) : CfgOK Tryz.prog E (cE tab sm) :=
  cfgS_ok (cfgI_ok mixed (cL1_ok hE h) (cL1_ok hE h) (fun _ => trivial) lwE_ok) hs ⟨_, Tryz.func25, by decide +kernel, by kernel_rfl⟩
def gB (x y : Bool) : Asm := [(.lt (.var 8) (.lit 0), x), (.lt (.lit 256) (.var 8), y)]
def pK : IT2 := (.var 6, .lit 1)
def enA : IT2 := qop 2 (qv 0) pK
def enB : IT2 := qop 2 (qv 1) pK
def enC : IT2 := qop 5 enB (qv 2)
def enF : IT := floT enA enB enC
def enL : IT2 := (.a2 7 enF (.var 6), .a2 8 enF (.var 6))
def enH : IT2 := (.a2 7 (.a2 0 enF (.lit 1)) (.var 6), .a2 8 (.a2 0 enF (.lit 1)) (.var 6))
def enT (L H : IT2) : Tree := .ite (.le (.lit 0) (sgnT (qop 0 (qv 0) (qng L)) (qv 1) (qv 2))) (.ite (.le (sgnT (qop 0 (qv 0) (qng H)) (qv 1) (qv 2)) (.lit 0)) (lfB (.le (qcmp (qop 2 (qop 1 H L) pK) (.lit 1, .lit 1)) (.lit 0))) (lfB (.lit false))) (lfB (.lit false))
theorem enT_true {E : Env} {L H : IT2} {a b c l h p : Rat} (ra : RepQ E (qv 0) a) (rb : RepQ E (qv 1) b) (rc : RepQ E (qv 2) c) (R : Rd b c) (rp : RepQ E pK p) (rl : RepQ E L l) (rh : RepQ E H h)
    (h1 : 0 ≤ sgN (a - l) b c) (h2 : sgN (a - h) b c ≤ 0) (h3 : (h - l) * p ≤ 1) {β : Nat → Nat} {w w' : World} {v : Value} (ex : Ext w w') (hh : (toAV ((enT L H).pick E)).holds E β w' v) : IsTrue w (.returned v) w' := by
  have t1 : (BT.le (.lit 0) (sgnT (qop 0 (qv 0) (qng L)) (qv 1) (qv 2))).den E = true := by
    show decide (0 ≤ (sgnT (qop 0 (qv 0) (qng L)) (qv 1) (qv 2)).den E) = true
    rw [sgnT_den (rep_add ra (rep_ng rl)) rb rc R, show a + -l = a - l by grind, decide_eq_true_iff]
    exact h1
  have t2 : (BT.le (sgnT (qop 0 (qv 0) (qng H)) (qv 1) (qv 2)) (.lit 0)).den E = true := by
    show decide ((sgnT (qop 0 (qv 0) (qng H)) (qv 1) (qv 2)).den E ≤ 0) = true
    rw [sgnT_den (rep_add ra (rep_ng rh)) rb rc R, show a + -h = a - h by grind, decide_eq_true_iff]
    exact h2
  unfold enT at hh
  rw [ite_pick t1, if_pos rfl, ite_pick t2, if_pos rfl] at hh
  rw [lfB_out hh]
  refine isT ex ?_
  show decide ((qcmp (qop 2 (qop 1 H L) pK) (.lit 1, .lit 1)).den E ≤ 0) = true
  rw [rep_cmp (rep_mul (rep_sub rh rl) rp) rep_1, decide_eq_true_iff]
  rcases sgQ_cases ((h - l) * p - 1) with ⟨k, e⟩ | ⟨k, e⟩ | ⟨k, e⟩ <;> rw [e]
  · decide
  · decide
  · exfalso; grind
theorem sgN_scale {x y c p : Rat} (hc : 0 ≤ c) (hp : 0 < p) : sgN (x * p) (y * p) c = sgN x y c := by
  have h := sgN_mul (a := x) (b := y) (a' := p) (b' := 0) hc
  have e1 : sgN p 0 c = 1 := by
    have hn : 0 < nrm p 0 c := by
      unfold nrm
      have := sq_pos (show p ≠ 0 by grind)
      grind
    rw [sgN_pos hn, sgQ_pos hp]
  rw [e1, Int.mul_one, show x * p + y * 0 * c = x * p by grind, show x * 0 + y * p = y * p by grind] at h
  exact h
theorem en_args {w : World} {v : Value} {a b c : Rat} {l : List Rat} {z : Int} (h : SmRt w v a b c) (hz : (qE (a :: b :: c :: l)).i 8 = z) : ∀ (i : Nat) (x : AV), [aRl 0 4, .val false [.n .i64 (.var 8)]][i]? = some x → ∃ β u, [v, .int .i64 z][i]? = some u ∧ x.holds (qE (a :: b :: c :: l)) β w u := by
  intro i x hx
  match i, hx with
  | 0, hx => injection hx with hx; subst hx; exact ⟨fun _ => 0, v, rfl, aRl_holds h.is h.lim⟩
  | 1, hx =>
    injection hx with hx
    subst hx
    refine ⟨fun _ => 0, _, rfl, one_num.2 ?_⟩
    show _ = Value.int .i64 ((qE (a :: b :: c :: l)).i 8)
    rw [hz]
theorem enclose_bad {w : World} {v : Value} {a b c : Rat} (h : SmRt w v a b c) (z : Int) (hz : z < 0 ∨ 256 < z) : Calls Tryz.prog 10 #[v, .int .i64 z] w (IsTrue w) := by
  have e8 : (qE [a, b, c, 0, (z : Rat)]).i 8 = z := Rat.num_intCast z
  obtain ⟨ra, rb, rc⟩ : RepQ (qE [a, b, c, 0, (z : Rat)]) (qv 0) a ∧ RepQ (qE [a, b, c, 0, (z : Rat)]) (qv 1) b ∧ RepQ (qE [a, b, c, 0, (z : Rat)]) (qv 2) c := ⟨rep_v (i := 0), rep_v (i := 1), rep_v (i := 2)⟩
  have g1 : ∀ x, decide (z < 0) = x → (BT.lt (.var 8) (.lit 0)).den (qE [a, b, c, 0, (z : Rat)]) = x := by
    rintro x rfl
    show decide ((qE [a, b, c, 0, (z : Rat)]).i 8 < 0) = _
    rw [e8]
  have g2 : ∀ x, decide (256 < z) = x → (BT.lt (.lit 256) (.var 8)).den (qE [a, b, c, 0, (z : Rat)]) = x := by
    rintro x rfl
    show decide (256 < (qE [a, b, c, 0, (z : Rat)]).i 8) = _
    rw [e8]
  by_cases hz0 : z < 0
  · refine (fun_sound (E := qE [a, b, c, 0, (z : Rat)]) (G := (rdT (qv 1) (qv 2), true) :: gB true false) (T := lfB (.lit true))
      mixed (cE_ok (tab := []) (qE_ok _) .nil (smRT_ok1 h)) (asm_and (rd_den rb rc h.rd) (asm_and (g1 _ (decide_eq_true hz0)) (asm_and (g2 _ (decide_eq_false (by omega))) asm_nil))) Tryz.func10 (by decide +kernel) (by kernel_rfl) (by decide +kernel) rfl w [v, .int .i64 z] rfl (en_args h e8)).mono ?_
    rintro e w' ⟨β, y, rfl, hh, ex⟩
    rw [lfB_out hh]
    exact ⟨rfl, ex⟩
  · refine (fun_sound (E := qE [a, b, c, 0, (z : Rat)]) (G := (rdT (qv 1) (qv 2), true) :: gB false true) (T := lfB (.lit true))
      mixed (cE_ok (tab := []) (qE_ok _) .nil (smRT_ok1 h)) (asm_and (rd_den rb rc h.rd) (asm_and (g1 _ (decide_eq_false hz0)) (asm_and (g2 _ (decide_eq_true (by omega))) asm_nil))) Tryz.func10 (by decide +kernel) (by kernel_rfl) (by decide +kernel) rfl w [v, .int .i64 z] rfl (en_args h e8)).mono ?_
    rintro e w' ⟨β, y, rfl, hh, ex⟩
    rw [lfB_out hh]
    exact ⟨rfl, ex⟩
theorem enclose_good {w : World} {v : Value} {a b c : Rat} (h : SmRt w v a b c) {n : Nat} (hn : n ≤ 256) : Calls Tryz.prog 10 #[v, .int .i64 (n : Int)] w (IsTrue w) := by
  obtain ⟨P, hP⟩ : ∃ P : Rat, P = (((2 : Int) ^ n : Int) : Rat) := ⟨_, rfl⟩
  have e8 : (eE a b c n).i 8 = (n : Int) := eE_8 a b c n
  have ra : RepQ (eE a b c n) (qv 0) a := rep_v (i := 0)
  have rb : RepQ (eE a b c n) (qv 1) b := rep_v (i := 1)
  have rc : RepQ (eE a b c n) (qv 2) c := rep_v (i := 2)
  have rp : RepQ (eE a b c n) pK P := by rw [hP]; exact rep_it (eE_6 a b c n)
  have hp2 : (0 : Int) < (2 : Int) ^ n := Int.pow_pos (by decide)
  have hp : 0 < P := by rw [hP]; exact Rat.intCast_pos.2 hp2
  have g1 : (BT.lt (.var 8) (.lit 0)).den (eE a b c n) = false := by
    show decide ((eE a b c n).i 8 < 0) = false
    rw [e8, decide_eq_false_iff_not]; omega
  have g2 : (BT.lt (.lit 256) (.var 8)).den (eE a b c n) = false := by
    show decide (256 < (eE a b c n).i 8) = false
    rw [e8, decide_eq_false_iff_not]; omega
  by_cases hb : b = 0
  · refine (fun_sound (E := eE a b c n) (G := (rdT (qv 1) (qv 2), true) :: (zt (qv 1), true) :: gB false false) (T := enT (qv 0) (qv 0))
      mixed (cE_ok (tab := tbE) (qE_ok _) (tbE_ok hn) (smRT_ok1 h)) (asm_and (rd_den rb rc h.rd) (asm_and (by rw [zt_den rb, decide_eq_true hb]) (asm_and g1 (asm_and g2 asm_nil)))) Tryz.func10 (by decide +kernel) (by kernel_rfl) (by decide +kernel) rfl w [v, .int .i64 (n : Int)] rfl (en_args h e8)).mono ?_
    rintro e w' ⟨β, y, rfl, hh, ex⟩
    have hc : sgN (a - a) b c = 0 := by
      refine sgN_zero ?_
      unfold nrm
      rw [hb]; grind
    exact enT_true ra rb rc h.rd rp ra ra (by omega) (by omega) (by grind) ex hh
  · have hbp : b * P ≠ 0 := fun k => by
      rcases Rat.mul_eq_zero.1 k with k | k
      · exact hb k
      · grind
    have rA := rep_mul ra rp
    have rB := rep_mul rb rp
    have rCC := rep_rC rB rc
    have hcc : rC (b * P) c = c := rC_ne hbp c
    have R' : Rd (b * P) (rC (b * P) c) := by
      rw [hcc]
      rcases h.rd with ⟨k, _⟩ | ⟨_, k⟩
      · exact absurd k hb
      · exact .inr ⟨hbp, k⟩
    have hF := floT_den rA rB rCC
    obtain ⟨s1, s2⟩ := flN_spec R' (a := a * P)
    rw [hcc] at s1 s2 hF
    obtain ⟨F, hFd⟩ : ∃ F, F = flN (a * P) (b * P) c := ⟨_, rfl⟩
    rw [← hFd] at s1 s2 hF
    have hF' : enF.den (eE a b c n) = F := hF
    have rL : RepQ (eE a b c n) enL (Rat.divInt F ((2 : Int) ^ n)) := by
      constructor
      · show (Rat.divInt (enF.den _) ((eE a b c n).i 6)).num = _
        rw [hF', eE_6]
      · show ((Rat.divInt (enF.den _) ((eE a b c n).i 6)).den : Int) = _
        rw [hF', eE_6]
    have rH : RepQ (eE a b c n) enH (Rat.divInt (F + 1) ((2 : Int) ^ n)) := by
      constructor
      · show (Rat.divInt (enF.den _ + 1) ((eE a b c n).i 6)).num = _
        rw [hF', eE_6]
      · show ((Rat.divInt (enF.den _ + 1) ((eE a b c n).i 6)).den : Int) = _
        rw [hF', eE_6]
    have dv : ∀ z : Int, Rat.divInt z ((2 : Int) ^ n) * P = (z : Rat) := by
      intro z
      rw [Rat.divInt_eq_div, ← hP]
      exact Rat.div_mul_cancel (by grind)
    have dL := dv F
    have dH := dv (F + 1)
    rw [Rat.intCast_add] at dH
    generalize Rat.divInt F ((2 : Int) ^ n) = L at *
    generalize Rat.divInt (F + 1) ((2 : Int) ^ n) = H at *
    have c0 := h.rd.nonneg
    refine (fun_sound (E := eE a b c n) (G := (rdT (qv 1) (qv 2), true) :: (zt (qv 1), false) :: (rdT enB enC, true) :: gB false false) (T := enT enL enH)
      mixed (cE_ok (tab := tbE) (qE_ok _) (tbE_ok hn) (smRT_ok1 h)) (asm_and (rd_den rb rc h.rd) (asm_and (by rw [zt_den rb, decide_eq_false hb]) (asm_and (rd_den rB rCC R') (asm_and g1 (asm_and g2 asm_nil))))) Tryz.func10 (by decide +kernel) (by kernel_rfl) (by decide +kernel) rfl w [v, .int .i64 (n : Int)] rfl (en_args h e8)).mono ?_
    rintro e w' ⟨β, y, rfl, hh, ex⟩
    refine enT_true ra rb rc h.rd rp rL rH ?_ ?_ ?_ ex hh
    · rw [← sgN_scale c0 hp, show (a - L) * P = a * P - L * P by grind, dL]
      exact s1
    · rw [← sgN_scale c0 hp, show (a - H) * P = a * P - H * P by grind, dH, ← Rat.intCast_add]
      omega
    · rw [show (H - L) * P = H * P - L * P by grind, dH, dL]
      have : ((1 : Int) : Rat) = 1 := rfl
      grind
theorem rootEnclose_calls (w : World) (v : Value) (p1 p2 p3 p4 p5 p6 : RI) (h : RawR w v p1 p2 p3 p4 p5 p6) (z : Int)  : Calls Tryz.prog 10 #[v, .int .i64 z] w (IsTrue w) := by
  by_cases hc : smR p1 p2 p3 p4 p5 p6 = true
  · have hc' := hc
    unfold smR at hc'
    simp only [Bool.and_eq_true] at hc'
    obtain ⟨c1, c2, c3, c4⟩ := hc'
    obtain ⟨k1, k2⟩ := h.root c1 c2 c3
    by_cases hb : z < 0 ∨ 256 < z
    · exact enclose_bad ⟨k1, k2, Rdb_iff.1 c4⟩ z hb
    · obtain ⟨n, rfl⟩ : ∃ n : Nat, z = (n : Int) := ⟨z.toNat, by omega⟩
      exact enclose_good ⟨k1, k2, Rdb_iff.1 c4⟩ (by omega)
  · have hs : RowSm (roE [p1, p2, p3, p4, p5, p6]) 25 (smRF 1) := by
      intro cs off x hx w bl hv
      unfold smRF at hx
      split at hx
      · rename_i hb
        injection hx with hx
        subst hx
        simp only [Bool.and_eq_true, beq_iff_eq] at hb
        obtain ⟨h1, h2, rfl⟩ := hb
        have hcs := isRaw_row h1
        rw [h2] at hcs
        have hcs' : cs = rowR 1 := hcs
        subst hcs'
        refine (smallR_row1 w bl hv).mono ?_
        rintro e w' ⟨y, rfl, hy, ex⟩
        have : y = false := by
          cases y with
          | false => rfl
          | true => exact absurd (hy.1 rfl 0 (by omega)) hc
        subst this
        exact ⟨rfl, ex⟩
      · cases hx
    refine (fun_sound (T := lfB (.lit true)) (G := []) (args := [.val true (rwC 0), .val false [.n .i64 (.lit z)]]) mixed (cfgS_ok (cfg_ok (.cons kAw_ok .nil)) hs ⟨_, Tryz.func25, by decide +kernel, by kernel_rfl⟩) no_asm Tryz.func10 (by decide +kernel) (by kernel_rfl) (show 2 ≤ Tryz.f10.ntmps by decide +kernel) rfl w [v, .int .i64 z] rfl ?_).mono ?_
    · intro i x hx
      match i, hx with
      | 0, hx => injection hx with hx; subst hx; exact ⟨fun _ => 0, v, rfl, (one_rwC (i := 0)).2 h⟩
      | 1, hx => injection hx with hx; subst hx; exact ⟨fun _ => 0, _, rfl, one_num.2 rfl⟩
    · rintro e w' ⟨β, u, rfl, hh, ex⟩
      rw [lfB_out hh]
      exact ⟨rfl, ex⟩
end Go.Proofs.YtdblkeeicmncfaaGreat
end
