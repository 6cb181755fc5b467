/-
  Lehmer's steps of Euclid's algorithm: plain numbers.
-/
import Derived.Test.YtfjaboolfjgleaaNum
namespace Go.Proofs.Ytfjaboolfjgleaa

/-- The signs of the factors, and the leading numbers h and l that they lead to, and back. -/
structure Pat (H L h l a b c d : Int) : Prop where
  a0 : 0 ≤ a
  b0 : b ≤ 0
  c0 : c ≤ 0
  d0 : 0 ≤ d
  hb : d * h - b * l = H
  lb : a * l - c * h = L
/-- The numbers that the factors lead to. -/
def Led (X Y a b c d Z V : Int) : Prop := Z = a * X + b * Y ∧ V = c * X + d * Y

theorem quo_bounds {u v q : Int} (hv : 0 < v) (hq : q = u / v) : q * v ≤ u ∧ u < (q + 1) * v := by
  subst hq
  exact ⟨Int.ediv_mul_le u (Int.ne_of_gt hv), Int.lt_ediv_add_one_mul_self u hv⟩
theorem quo_nonneg {u v q : Int} (hu : 0 ≤ u) (hv : 0 < v) (hq : q = u / v) : 0 ≤ q := by
  subst hq; exact Int.ediv_nonneg hu (Int.le_of_lt hv)

section
variable {H L h l a b c d X Y N x' y' Z V q : Int}
/-- The quotient that both ends have is that of the numbers. -/
theorem Pat.quo (P : Pat H L h l a b c d) (hh : h = a * H + b * L) (hl : l = c * H + d * L) (hX : X = H * N + x') (hY : Y = L * N + y') (hx0 : 0 ≤ x') (hx1 : x' ≤ N) (hy0 : 0 ≤ y') (hy1 : y' ≤ N) (hN : 0 < N)
    (hd : Led X Y a b c d Z V) (k1 : 0 < l + c) (k2 : 0 < l + d) (k3 : 0 ≤ h + a) (e1 : q = (h + a) / (l + c)) (e2 : q = (h + b) / (l + d)) :
    0 < V ∧ q * V ≤ Z ∧ Z < (q + 1) * V ∧ 0 ≤ q := by
  obtain ⟨hZ, hV⟩ := hd
  have hq0 := quo_nonneg k3 k1 e1
  have b1 := quo_bounds k1 e1
  have b2 := quo_bounds k2 e2
  have ez : Z = h * N + (a * x' + b * y') := by
    rw [hZ, hX, hY, hh]
    simp only [Int.mul_add, Int.add_mul, Int.mul_assoc]
    omega
  have ev : V = l * N + (c * x' + d * y') := by
    rw [hV, hX, hY, hl]
    simp only [Int.mul_add, Int.add_mul, Int.mul_assoc]
    omega
  have m1 : a * x' ≤ a * N := Int.mul_le_mul_of_nonneg_left hx1 P.a0
  have m2 : 0 ≤ a * x' := Int.mul_nonneg P.a0 hx0
  have m3 : b * y' ≤ 0 := Int.mul_nonpos_of_nonpos_of_nonneg P.b0 hy0
  have m4 : b * N ≤ b * y' := Int.mul_le_mul_of_nonpos_left P.b0 hy1
  have m5 : c * x' ≤ 0 := Int.mul_nonpos_of_nonpos_of_nonneg P.c0 hx0
  have m6 : c * N ≤ c * x' := Int.mul_le_mul_of_nonpos_left P.c0 hx1
  have m7 : d * y' ≤ d * N := Int.mul_le_mul_of_nonneg_left hy1 P.d0
  have m8 : 0 ≤ d * y' := Int.mul_nonneg P.d0 hy0
  have z1 : Z ≤ (h + a) * N := by rw [Int.add_mul]; omega
  have z2 : (h + b) * N ≤ Z := by rw [Int.add_mul]; omega
  have v1 : V ≤ (l + d) * N := by rw [Int.add_mul]; omega
  have v2 : (l + c) * N ≤ V := by rw [Int.add_mul]; omega
  have v0 : 0 < (l + c) * N := Int.mul_pos k1 hN
  refine ⟨by omega, ?_, ?_, hq0⟩
  · have w1 : q * V ≤ q * ((l + d) * N) := Int.mul_le_mul_of_nonneg_left v1 hq0
    have w2 : q * (l + d) * N ≤ (h + b) * N := Int.mul_le_mul_of_nonneg_right b2.1 (Int.le_of_lt hN)
    rw [Int.mul_assoc] at w2
    omega
  · have w1 : (q + 1) * ((l + c) * N) ≤ (q + 1) * V := Int.mul_le_mul_of_nonneg_left v2 (by omega)
    have w2 : (h + a) * N < (q + 1) * (l + c) * N := Int.mul_lt_mul_of_pos_right b1.2 hN
    rw [Int.mul_assoc] at w2
    omega
/-- The next factors, and how great they are. -/
theorem Pat.next (P : Pat H L h l a b c d) (k1 : 0 < l + c) (k2 : 0 < l + d) (k3 : 0 ≤ h + a) (e1 : q = (h + a) / (l + c)) (e2 : q = (h + b) / (l + d)) :
    Pat L H l (h - q * l) d c (b - q * d) (a - q * c) ∧ 0 ≤ a - q * c ∧ a - q * c < l ∧ q * d - b ≤ h - q * l ∧ h - q * l < l ∧ 0 ≤ q * d - b := by
  have hq0 := quo_nonneg k3 k1 e1
  have b1 := (quo_bounds k1 e1).2
  have b2 := (quo_bounds k2 e2).1
  have n1 : q * c ≤ 0 := Int.mul_nonpos_of_nonneg_of_nonpos hq0 P.c0
  have n2 : 0 ≤ q * d := Int.mul_nonneg hq0 P.d0
  have a0 := P.a0
  have b0 := P.b0
  have c0 := P.c0
  have d0 := P.d0
  rw [Int.add_mul, Int.mul_add] at b1
  rw [Int.mul_add] at b2
  refine ⟨⟨d0, c0, by omega, by omega, ?_, ?_⟩, by omega, by omega, by omega, by omega, by omega⟩
  · rw [← P.lb, Int.sub_mul, Int.mul_sub]
    have : c * (q * l) = q * c * l := by rw [Int.mul_left_comm, Int.mul_assoc]
    omega
  · rw [← P.hb, Int.sub_mul, Int.mul_sub]
    have : d * (q * l) = q * d * l := by rw [Int.mul_left_comm, Int.mul_assoc]
    omega
end
/-- A factor whose square is at most a number below the square of the base. -/
theorem small_factor {u l H B : Int} (hu : u ≤ l) (h0 : 0 ≤ u) (h : u * l ≤ H) (hH : H < B * B) (hB : 0 ≤ B) : u < B := by
  rcases (show u < B ∨ B ≤ u by omega) with hlt | hge
  · exact hlt
  · have h1 : B * B ≤ u * u := Int.mul_le_mul hge hge hB h0
    have h2 : u * u ≤ u * l := Int.mul_le_mul_of_nonneg_left hu h0
    omega

/-- What the loop of leadingSteps keeps: H and L are the leading numbers of X and Y, N the place's weight. -/
structure Leh (X Y N H L h l a b c d : Int) : Prop where
  pat : Pat H L h l a b c d ∨ Pat L H h l b a d c
  hh : h = a * H + b * L
  hl : l = c * H + d * L
  k3 : 0 ≤ h + a
  k4 : 0 ≤ h + b
  l0 : 0 ≤ l
  lh : l ≤ h
  hH : h ≤ H
  ba : -1000000000 < a ∧ a < 1000000000
  bb : -1000000000 < b ∧ b < 1000000000
  bc : -1000000000 < c ∧ c < 1000000000
  bd : -1000000000 < d ∧ d < 1000000000
  gcd : Int.gcd (a * X + b * Y) (c * X + d * Y) = Int.gcd X Y
  v0 : 0 ≤ c * X + d * Y
  vz : c * X + d * Y ≤ a * X + b * Y
  zX : a * X + b * Y ≤ X
  vY : c * X + d * Y ≤ Y
  low : b ≠ 0 → c * X + d * Y < Y

theorem Leh.start {X Y N H L : Int} (h0 : 0 ≤ L) (hLH : L ≤ H) (hY0 : 0 ≤ Y) (hYX : Y ≤ X) : Leh X Y N H L H L 1 0 0 1 where
  pat := .inl ⟨by omega, by omega, by omega, by omega, by omega, by omega⟩
  hh := by omega
  hl := by omega
  k3 := by omega
  k4 := by omega
  l0 := h0
  lh := hLH
  hH := by omega
  ba := by omega
  bb := by omega
  bc := by omega
  bd := by omega
  gcd := by simp
  v0 := by omega
  vz := by omega
  zX := by omega
  vY := by omega
  low := by omega

theorem gcd_step (Z V q : Int) : Int.gcd V (Z - q * V) = Int.gcd Z V := by
  rw [Int.gcd_sub_mul_right_right, Int.gcd_comm]

/-- The numbers of a step, before it is taken: they fit. -/
theorem Leh.facts {X Y N H L h l a b c d q : Int} (I : Leh X Y N H L h l a b c d) {x' y' : Int} (hX : X = H * N + x') (hY : Y = L * N + y') (hx0 : 0 ≤ x') (hx1 : x' ≤ N) (hy0 : 0 ≤ y') (hy1 : y' ≤ N) (hN : 0 < N)
    (hL : L ≤ H) (hH : H < 1000000000000000000) (k1 : 0 < l + c) (k2 : 0 < l + d) (e1 : q = (h + a) / (l + c)) (e2 : q = (h + b) / (l + d)) :
    Leh X Y N H L l (h - q * l) c d (a - q * c) (b - q * d) ∧ 0 ≤ q ∧ h - q * l < l ∧ (-1000000000 < q * c ∧ q * c < 1000000000) ∧ (-1000000000 < q * d ∧ q * d < 1000000000) ∧ 0 ≤ q * l ∧ q * l ≤ h := by
  have hq0 := quo_nonneg I.k3 k1 e1
  have hl0 := I.l0
  have hlh := I.lh
  have hhH := I.hH
  have fit : ∀ u l', u ≤ l' → 0 ≤ u → (u * l' ≤ H ∨ u * l' ≤ L) → u < 1000000000 := by
    intro u l' h1 h2 h3
    rcases h3 with h3 | h3
    · exact small_factor h1 h2 h3 (B := 1000000000) (by omega) (by omega)
    · exact small_factor h1 h2 h3 (B := 1000000000) (by omega) (by omega)
  have main : (0 < c * X + d * Y ∧ q * (c * X + d * Y) ≤ a * X + b * Y ∧ a * X + b * Y < (q + 1) * (c * X + d * Y)) ∧
      (Pat H L l (h - q * l) c d (a - q * c) (b - q * d) ∨ Pat L H l (h - q * l) d c (b - q * d) (a - q * c)) ∧
      (0 ≤ h - q * l ∧ h - q * l < l) ∧ (-1000000000 < a - q * c ∧ a - q * c < 1000000000) ∧ (-1000000000 < b - q * d ∧ b - q * d < 1000000000) ∧
      (-1000000000 < q * c ∧ q * c < 1000000000) ∧ (-1000000000 < q * d ∧ q * d < 1000000000) := by
    rcases I.pat with P | P
    · obtain ⟨v1, v2, v3, _⟩ := P.quo I.hh I.hl hX hY hx0 hx1 hy0 hy1 hN ⟨rfl, rfl⟩ k1 k2 I.k3 e1 e2
      obtain ⟨P', n1, n2, n3, n4, n5⟩ := P.next k1 k2 I.k3 e1 e2
      have hb' := P'.hb
      have lb' := P'.lb
      have p1 : 0 ≤ c * (h - q * l) * -1 := by
        have := Int.mul_nonpos_of_nonpos_of_nonneg P.c0 (show 0 ≤ h - q * l by omega)
        omega
      have p2 : 0 ≤ d * (h - q * l) := Int.mul_nonneg P.d0 (by omega)
      have f1 := fit (a - q * c) l (by omega) n1 (.inr (by omega))
      have e : (q * d - b) * l = -((b - q * d) * l) := by rw [← Int.neg_mul]; congr 1; omega
      have f2 := fit (q * d - b) l (by omega) n5 (.inl (by rw [e]; omega))
      have n6 : q * c ≤ 0 := Int.mul_nonpos_of_nonneg_of_nonpos hq0 P.c0
      have n7 : 0 ≤ q * d := Int.mul_nonneg hq0 P.d0
      have a0 := P.a0
      have b0 := P.b0
      exact ⟨⟨v1, v2, v3⟩, .inr P', ⟨by omega, n4⟩, ⟨by omega, f1⟩, ⟨by omega, by omega⟩, ⟨by omega, by omega⟩, by omega, by omega⟩
    · have e1' : q = (h + b) / (l + d) := e2
      have hX' : Y = L * N + y' := hY
      have hd : Led Y X b a d c (a * X + b * Y) (c * X + d * Y) := ⟨Int.add_comm _ _, Int.add_comm _ _⟩
      obtain ⟨v1, v2, v3, _⟩ := P.quo (by rw [I.hh]; omega) (by rw [I.hl]; omega) hY hX hy0 hy1 hx0 hx1 hN hd k2 k1 I.k4 e2 e1
      obtain ⟨P', n1, n2, n3, n4, n5⟩ := P.next k2 k1 I.k4 e2 e1
      have hb' := P'.hb
      have lb' := P'.lb
      have p1 : 0 ≤ d * (h - q * l) * -1 := by
        have := Int.mul_nonpos_of_nonpos_of_nonneg P.c0 (show 0 ≤ h - q * l by omega)
        omega
      have p2 : 0 ≤ c * (h - q * l) := Int.mul_nonneg P.d0 (by omega)
      have f1 := fit (b - q * d) l (by omega) n1 (.inl (by omega))
      have e : (q * c - a) * l = -((a - q * c) * l) := by rw [← Int.neg_mul]; congr 1; omega
      have f2 := fit (q * c - a) l (by omega) n5 (.inr (by rw [e]; omega))
      have n6 : q * d ≤ 0 := Int.mul_nonpos_of_nonneg_of_nonpos hq0 P.c0
      have n7 : 0 ≤ q * c := Int.mul_nonneg hq0 P.d0
      have a0 := P.a0
      have b0 := P.b0
      exact ⟨⟨v1, v2, v3⟩, .inl P', ⟨by omega, n4⟩, ⟨by omega, by omega⟩, ⟨by omega, f1⟩, ⟨by omega, by omega⟩, by omega, by omega⟩
  obtain ⟨⟨v1, v2, v3⟩, hp, ⟨l1, l2⟩, g1, g2, g3, g4⟩ := main
  have ev : (a - q * c) * X + (b - q * d) * Y = (a * X + b * Y) - q * (c * X + d * Y) := by
    rw [Int.sub_mul, Int.sub_mul, Int.mul_add, Int.mul_assoc, Int.mul_assoc]; omega
  have vz := I.vz
  have zX := I.zX
  rw [Int.add_mul] at v3
  have hVY := I.vY
  refine ⟨?_, hq0, l2, g3, g4, Int.mul_nonneg hq0 hl0, by omega⟩
  refine { pat := hp, hh := I.hl, hl := ?_, k3 := by omega, k4 := by omega, l0 := l1, lh := by omega, hH := by omega, ba := I.bc, bb := I.bd, bc := g1, bd := g2, gcd := ?_, v0 := ?_, vz := ?_, zX := by omega, vY := ?_, low := ?_ }
  · rw [I.hh, I.hl, Int.sub_mul, Int.sub_mul, Int.mul_add, Int.mul_assoc, Int.mul_assoc]; omega
  · rw [ev, gcd_step]; exact I.gcd
  · rw [ev]; omega
  · rw [ev]; omega
  · rw [ev]; omega
  · intro _; rw [ev]; omega

end Go.Proofs.Ytfjaboolfjgleaa
