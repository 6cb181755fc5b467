package radical

import (
	"swarf/api"
	"swarf/filter"
	"swarf/integer"
	"swarf/rational"
)

// Sign returns the sign of the value.
func Sign(q api.Quad) int {
	if rational.Sign(q.M) < 0 || rational.Sign(q.N) < 0 {
		return 0
	}
	if sign, ok := fastSign(q); ok {
		return sign
	}
	return exactSign(q)
}

// fastSign returns the sign of (A + B sqrt(M)) + (C + D sqrt(M)) sqrt(N), and whether intervals decide it.
func fastSign(q api.Quad) (int, bool) {
	left, ok := filter.Root(api.Root{A: q.A, B: q.B, C: q.M})
	if !ok {
		return 0, false
	}
	factor, ok := filter.Root(api.Root{A: q.C, B: q.D, C: q.M})
	if !ok {
		return 0, false
	}
	n, ok := filter.FromRat(q.N)
	if !ok {
		return 0, false
	}
	square, ok := filter.Sqrt(n)
	if !ok {
		return 0, false
	}
	right, ok := filter.Mul(factor, square)
	if !ok {
		return 0, false
	}
	return signOfSum(left, right)
}

// exactSign returns the sign of the value, for M and N that are not negative.
func exactSign(q api.Quad) int {
	den := commonMultiple(commonMultiple(q.A.Den, q.B.Den), commonMultiple(q.C.Den, q.D.Den))
	left := pair{enlarge(q.A, den), enlarge(q.B, den), q.M}
	right := pair{enlarge(q.C, den), enlarge(q.D, den), q.M}
	sign, other := left.sign(), right.sign()*rational.Sign(q.N)
	if sign*other >= 0 {
		return signOf(sign + other)
	}
	// The signs of both parts, left and right sqrt(N), differ, and the one with the greater square decides.
	return sign * compareSquares(left, right, q.N)
}

// pair is the number a + b sqrt(m). The radicand can be a square or 0, but is not negative.
type pair struct {
	a, b api.Int
	m    api.Rat
}

// sign returns the sign of the number.
func (x pair) sign() int {
	a, b := integer.Sign(x.a), integer.Sign(x.b)*rational.Sign(x.m)
	if a*b >= 0 {
		return signOf(a + b)
	}
	return a * integer.Cmp(integer.Mul(square(x.a), x.m.Den), integer.Mul(square(x.b), x.m.Num))
}

// square returns a number without a square root and the factor of 2 sqrt(m) whose sum, divided by the denominator of m, is the square of x.
func (x pair) square() (api.Int, api.Int) {
	plain := integer.Add(integer.Mul(square(x.a), x.m.Den), integer.Mul(square(x.b), x.m.Num))
	return plain, integer.Mul(integer.Mul(x.a, x.b), x.m.Den)
}

// compareSquares returns the sign of x^2 - y^2 n, for two numbers with the same radicand.
func compareSquares(x, y pair, n api.Rat) int {
	xPlain, xFactor := x.square()
	yPlain, yFactor := y.square()
	plain := integer.Sub(integer.Mul(xPlain, n.Den), integer.Mul(yPlain, n.Num))
	factor := integer.Sub(integer.Mul(xFactor, n.Den), integer.Mul(yFactor, n.Num))
	return pair{plain, integer.Add(factor, factor), x.m}.sign()
}

// commonMultiple returns the least positive multiple of both denominators; it can share memory with a.
func commonMultiple(a, b api.Int) api.Int {
	if integer.Cmp(a, b) == 0 {
		return a
	}
	rest, _, _ := integer.DivMod(a, integer.GCD(a, b))
	return integer.Mul(rest, b)
}

// enlarge returns the numerator of x for a multiple of its denominator.
func enlarge(x api.Rat, den api.Int) api.Int {
	factor, _, _ := integer.DivMod(den, x.Den)
	return integer.Mul(x.Num, factor)
}

// signOf returns the sign of n.
func signOf(n int) int { return max(-1, min(1, n)) }

// square returns n^2.
func square(n api.Int) api.Int { return integer.Mul(n, n) }
