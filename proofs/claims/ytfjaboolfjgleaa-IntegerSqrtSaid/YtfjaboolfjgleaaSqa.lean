/-
  The square root of limbs of any length: Newton's method from the root of the upper limbs.
-/
import Derived.Test.YtfjaboolfjgleaaSql
import Derived.Deep.DeepCutAuto
namespace Go.Proofs.Ytfjaboolfjgleaa
open Go.RowKit

/-- The first root: greater than the root, and with no more limbs than the number. -/
theorem first_limbs {m d r : Nat} (hd : 0 < d) (h2 : 2 * d + 1 ≤ (limbs m).length) (hr : IsSq (m / 1000000000 ^ (2 * d)) r) :
    m < (1000000000 ^ d * (r + 1) + 1) * (1000000000 ^ d * (r + 1) + 1) ∧ 0 < 1000000000 ^ d * (r + 1) ∧ (limbs (1000000000 ^ d * (r + 1))).length ≤ (limbs m).length ∧ (limbs (r + 1)).length + d ≤ (limbs m).length := by
  have hP : 0 < 1000000000 ^ d := Nat.pow_pos (by omega)
  have e : 1000000000 ^ (2 * d) = 1000000000 ^ d * 1000000000 ^ d := by rw [← Nat.pow_add]; congr 1; omega
  have hl : (limbs (r + 1)).length + d ≤ (limbs m).length := by
    have h1 : (limbs r).length ≤ (limbs m).length - 2 * d := by
      have := limbs_len_mono (isSq_le hr)
      rw [limbs_div m (2 * d) (by omega), List.length_drop] at this
      exact this
    have h3 := lt_of_limbs_len h1
    have h4 : (limbs (r + 1)).length ≤ (limbs m).length - 2 * d + 1 := by
      refine limbs_len_le ?_
      rw [Nat.pow_succ]
      have : 0 < 1000000000 ^ ((limbs m).length - 2 * d) := Nat.pow_pos (by omega)
      omega
    omega
  refine ⟨?_, Nat.mul_pos hP (by omega), ?_, hl⟩
  · refine lt_next_sq ?_
    have h1 := Nat.div_add_mod m (1000000000 ^ (2 * d))
    have h2 := Nat.mod_lt m (show 0 < 1000000000 ^ (2 * d) from Nat.pow_pos (by omega))
    rw [e] at h1 h2 hr
    have := first_root h2 hr
    rw [Nat.mul_comm (m / _)] at this
    omega
  · rw [limbs_shift d (r + 1) (by omega), List.length_append, List.length_replicate]
    omega

/-- An append of which it is known what it leaves. -/
theorem wpList_append_run' {P : Program} {w : World} {ops : Array Oper} {rest : List Oper} {o : Oper} {a : Act} {Q : Exit → Act → World → Prop} (hgd : o.guard = none) (s x : Operand) (t : TypeId)
    (ho : o.op = .call { callee := .builtin .append, args := #[s, x], argTypes := #[t, t] }) {vs vx v' : Value} {w' : World} (hs : a.eval s = vs) (hx : a.eval x = vx)
    (hrun : (Builtin.append_ #[t, t] o.type #[vs, vx]).run P w = .ok v' w') (h : wpList P ops Q rest (a.put o.dst v') w') : wpList P ops Q (o :: rest) a w := by
  refine wpList_plain hgd fun K hK => ?_
  unfold Oper.wp
  simp [execOp, ho, resolve, invoke, builtin, hs, hx, hrun, Result.andThen]
  exact hK _ _ h

/-- What the loop keeps: a number that is not less than the root. -/
def SqRel (w0 : World) (m q : Nat) (x : Value) (wr : World) : Prop :=
  ∃ a c, x = .slice a (limbs q).length c ∧ Hid (0 < q ∧ m < (q + 1) * (q + 1) ∧ (limbs q).length ≤ 1048575 ∧ (limbs q).length ≤ c ∧ c ≤ 9223372036854775807) ∧ Cells wr a (limbs q) ∧ Ext w0 wr

set_option maxRecDepth 100000 in
set_option maxHeartbeats 3200000 in
theorem sqrtLimbs_step (w : World) (ao : Option Addr) (m cap : Nat) (l : (limbs m).length ≤ 1048575) (h1 : (limbs m).length ≤ cap) (h2 : cap ≤ 9223372036854775807) (h3 : Cells w ao (limbs m)) (h4 : 4 < (limbs m).length)
    (ih : ∀ (k : Nat), (limbs k).length < (limbs m).length → ∀ (w : World) (ao : Option Addr) (cap : Nat), (limbs k).length ≤ 1048575 → (limbs k).length ≤ cap → cap ≤ 9223372036854775807 → Cells w ao (limbs k) → Calls Try.prog 63 #[.slice ao (limbs k).length cap] w (Ret (SqL k) w)) :
    Calls Try.prog 63 #[.slice ao (limbs m).length cap] w (Ret (SqL m) w) := by
  obtain ⟨b, off, rfl, _⟩ := h3.at_ (by omega)
  obtain ⟨d, hd⟩ : ∃ d, d = ((limbs m).length - 1) / 4 := ⟨_, rfl⟩
  have hm0 : 0 < m := by
    rcases Nat.eq_zero_or_pos m with h | h
    · subst h; simp [limbs_zero] at h4
    · exact h
  obtain ⟨L, hL⟩ : ∃ L, L = (limbs m).length := ⟨_, rfl⟩
  have hdI : ((L : Int) - 1).tdiv 4 = (d : Int) := by rw [Int.tdiv_eq_ediv_of_nonneg (by omega)]; omega
  have htop : limbs (m / 1000000000 ^ (2 * d)) = (limbs m).drop (2 * d) := limbs_div m (2 * d) (by omega)
  have hlen : (limbs (m / 1000000000 ^ (2 * d))).length = L - 2 * d := by rw [htop, List.length_drop, hL]
  have hIH := ih (m / 1000000000 ^ (2 * d)) (by omega) w (some ⟨b, off + 2 * d, none⟩) (cap - 2 * d) (by omega) (by omega) (by omega) (by rw [htop]; exact h3.drop (2 * d))
  rw [hlen] at hIH
  have HIH := Lib.hid hIH
  have HF := Lib.hid (fun r (hr : IsSq (m / 1000000000 ^ (2 * d)) r) => first_limbs (m := m) (d := d) (by omega) (by omega) hr)
  have HX := Lib.hid (And.intro h3 (And.intro h1 (And.intro h2 (And.intro l hm0))))
  have HLe := Lib.hid hL
  have hL4 : ¬ (L : Int) ≤ 4 := by omega
  have hLb : (L : Int) ≤ 1048575 := by omega
  have hL0 : (1 : Int) ≤ (L : Int) := by omega
  have hd0 : 0 < d := by omega
  have hdb : (d : Int) ≤ 262144 := by omega
  have hcL : (L : Int) ≤ (cap : Int) := by omega
  have hd2 : 2 * (d : Int) ≤ (L : Int) := by omega
  have hd2c : 2 * (d : Int) ≤ (cap : Int) := by omega
  have hne : ¬ cap = 2 * d := by omega
  have hmk := run_mk d (by omega) ↑d rfl
  have HDb := Lib.hid (show d ≤ 262144 by omega)
  rw [← hL]
  clear hIH ih hd htop hlen h1 h3 h4 l hm0 hL
  go_enter Try.func63, Try.ntmps63
  go_wp2_with fail
  refine HIH.out.mono ?_
  rintro e w1 ⟨v1, rfl, ⟨r, hr, ⟨a1, c1, rfl, p1, p2, p3⟩⟩, e1⟩
  have HR := Lib.hid (HF.out r hr)
  have hrl : (limbs r).length ≤ 1048576 := by have := limbs_len_mono (show r ≤ r + 1 by omega); have := HR.out.2.2.2; have := HX.out.2.2.2.1; omega
  have hadd := addLimbs_calls (w1.alloc (.cells #[.int .u32 1] 46)) a1 (some ⟨w1.heap.size, 0, none⟩) (limbs r) [1] c1 1 (by omega) (by simp) (p3.ext ((Ext.refl w1).alloc _)) (Blk.new w1 [1]).cells (dig_limbs _) (Dig.cons (by omega) Dig.nil)
  rw [val_limbs, show val [1] = 1 from rfl] at hadd
  have HA := Lib.hid hadd
  clear hr hrl hadd HIH HF p1 p2 p3
  go_wp2_with fail
  refine HA.out.mono ?_
  rintro e w2 ⟨v2, rfl, ⟨a2, c2, rfl, q1, q2, q3⟩, e2⟩
  have e12 := e1.trans (((Ext.refl w1).alloc (.cells #[.int .u32 1] 46)).trans e2)
  have hl2 : (limbs (r + 1)).length ≤ 1048576 := by have := HR.out.2.2.2; have := HX.out.2.2.2.1; omega
  obtain ⟨a3, c3, w3, hrun, r1, r2, e3, r3⟩ := run_append_onto w2 22 (List.replicate d 0) (by rw [List.length_replicate]; have := HDb.out; omega) (by rw [List.length_replicate]; exact hd0) a2 (limbs (r + 1)) c2 (by omega) q3
  rw [← limbs_shift d (r + 1) (by omega)] at r3
  have hlen : d + (limbs (r + 1)).length = (limbs (1000000000 ^ d * (r + 1))).length := by
    rw [limbs_shift d (r + 1) (by omega), List.length_append, List.length_replicate]
  rw [List.length_replicate, hlen] at hrun r1
  have HRUN := Lib.hid hrun
  have HC := Lib.hid (And.intro r1 (And.intro r2 r3))
  have HE := Lib.hid ((e12.trans e3))
  clear hrun r1 r2 r3 hlen hl2 e12 e1 e2 e3 q1 q2 q3 HA
  go_wp2_with (at_builtin; refine wpList_append_run' rfl _ _ 22 rfl rfl rfl HRUN.out ?_)
  obtain ⟨p0, hp0⟩ : ∃ p0, p0 = 1000000000 ^ d * (r + 1) := ⟨_, rfl⟩
  rw [← hp0] at HC HR ⊢
  have HCut : Hid (SqRel w m p0 (.slice a3 (limbs p0).length c3) w3) := ⟨a3, c3, rfl, ⟨HR.out.2.1, HR.out.1, Nat.le_trans HR.out.2.2.1 HX.out.2.2.2.1, HC.out.1, HC.out.2.1⟩, HC.out.2.2, HE.out⟩
  clear hp0 HC HR HE HRUN hmk hd0 hdb hd2 hd2c hne hcL hdI hL4 hL0 HDb
  go_loopg [5] p0 (fun q x wr => SqRel w m q x wr)
  case atStart => exact HCut.out
  case round =>
    obtain ⟨a, c, rfl, H, hx, hE⟩ := hrel
    clear HCut
    have hnw := newton_calls wr (some ⟨b, off, none⟩) a m gk cap c HX.out.2.2.2.1 H.out.2.2.1 H.out.1 HX.out.2.1 H.out.2.2.2.1 HX.out.2.2.1 H.out.2.2.2.2 (HX.out.1.ext hE) hx
    rw [← HLe.out] at hnw
    have HN := Lib.hid hnw
    obtain ⟨k, hk⟩ : ∃ k, k = (gk + m / gk) / 2 := ⟨_, rfl⟩
    rw [← hk] at HN
    have HK := Lib.hid hk
    have HXX := Lib.hid hx
    clear hnw hk hx
    go_wp2_with fail
    refine HN.out.mono ?_
    rintro e w4 ⟨v4, rfl, ⟨a4, c4, rfl, s1, s2, s3⟩, e4⟩
    have HB := Lib.hid (And.intro s1 s2)
    have HS3 := Lib.hid s3
    clear s1 s2 s3 HN
    go_wp2_with fail
    refine (compareLimbs_calls _ _ _ k gk _ _ (Nat.le_trans HB.out.1 HB.out.2) (Nat.le_trans H.out.2.2.2.1 H.out.2.2.2.2) HS3.out (HXX.out.ext e4)).mono ?_
    rintro e w5 ⟨rfl, j, hw5⟩
    have e5 : Ext w4 w5 := by rw [hw5]; exact (Ext.refl w4).drewN j
    have eA := hE.trans (e4.trans e5)
    clear hw5
    by_cases hge : gk ≤ k
    · have hc0 : (0 : Int) ≤ cmpZ k gk := by rcases cmpZ_cases (k : Int) (gk : Int) with h | h | h <;> omega
      have HSq := Lib.hid (newton_stop H.out.1 H.out.2.1 (by rw [← HK.out]; exact hge))
      clear hge
      go_wp2_with fail
      go_ret
      exact ⟨_, rfl, ⟨gk, HSq.out, a, c, rfl, H.out.2.2.2.1, H.out.2.2.2.2, HXX.out.ext (e4.trans e5)⟩, eA⟩
    · have hc0 : ¬ (0 : Int) ≤ cmpZ k gk := by rcases cmpZ_cases (k : Int) (gk : Int) with h | h | h <;> omega
      have HP := Lib.hid (show 0 < k ∧ m < (k + 1) * (k + 1) by rw [HK.out]; exact ⟨newton_pos H.out.1 HX.out.2.2.2.2, newton_next H.out.1⟩)
      have HG := Lib.hid hge
      clear hge
      go_wp2_with fail
      go_roundg k
      case measure => have := HG.out; omega
      case rel => exact ⟨a4, c4, rfl, ⟨HP.out.1, HP.out.2, Nat.le_trans (limbs_len_mono (by have := HG.out; omega)) H.out.2.2.1, HB.out.1, HB.out.2⟩, HS3.out.ext e5, eA⟩

theorem sqrtLimbs_any (w : World) (ao : Option Addr) (m cap : Nat) (l : (limbs m).length ≤ 1048575) (h1 : (limbs m).length ≤ cap) (h2 : cap ≤ 9223372036854775807) (h3 : Cells w ao (limbs m)) :
    Calls Try.prog 63 #[.slice ao (limbs m).length cap] w (Ret (SqL m) w) := by
  suffices h : ∀ (n : Nat) (m : Nat), (limbs m).length = n → ∀ (w : World) (ao : Option Addr) (cap : Nat), (limbs m).length ≤ 1048575 → (limbs m).length ≤ cap → cap ≤ 9223372036854775807 → Cells w ao (limbs m) → Calls Try.prog 63 #[.slice ao (limbs m).length cap] w (Ret (SqL m) w) from
    h _ m rfl w ao cap l h1 h2 h3
  intro n
  induction n using Nat.strongRecOn with
  | ind n ih =>
    intro m hm w ao cap l h1 h2 h3
    rcases Nat.lt_or_ge 4 (limbs m).length with h4 | h4
    · exact sqrtLimbs_step w ao m cap l h1 h2 h3 h4 (fun k hk w ao cap => ih _ (by omega) k rfl w ao cap)
    · exact sqrtLimbs_small w ao m cap h1 h2 h3 h4

end Go.Proofs.Ytfjaboolfjgleaa
