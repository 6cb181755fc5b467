package filter_test

import (
	"math/big"

	"swarf/api"
	"swarf/filter"
)

// result is an interval with ends of any size, as a reference, or nil if there is none.
type result struct{ low, high *big.Int }

// proper returns r if it is a proper interval.
func (r *result) proper() *result {
	if r.low.Cmp(r.high) > 0 || r.low.Cmp(big.NewInt(-limit)) < 0 || r.high.Cmp(big.NewInt(limit)) > 0 {
		return nil
	}
	return r
}

// is reports whether a function has returned r.
func (r *result) is(got filter.Interval, ok bool) bool {
	if r == nil {
		return !ok && got == filter.Interval{}
	}
	return ok && got == filter.Interval{Low: r.low.Int64(), High: r.high.Int64()}
}

// down and up round a number to an integer.
func down(x *big.Rat) *big.Int { return new(big.Int).Div(x.Num(), x.Denom()) }
func up(x *big.Rat) *big.Int {
	n := new(big.Rat).Neg(x)
	return new(big.Int).Neg(down(n))
}

// around returns the interval around a number of units.
func around(x *big.Rat) *result { return (&result{down(x), up(x)}).proper() }

// from returns the interval with the ends of a.
func from(a filter.Interval) *result { return &result{big.NewInt(a.Low), big.NewInt(a.High)} }

func fromRat(x *big.Rat) *result { return around(mul(x, big.NewRat(filter.Scale, 1))) }

func (r *result) add(s *result) *result {
	if r == nil || s == nil {
		return nil
	}
	return (&result{new(big.Int).Add(r.low, s.low), new(big.Int).Add(r.high, s.high)}).proper()
}

func (r *result) neg() *result {
	if r == nil {
		return nil
	}
	return &result{new(big.Int).Neg(r.high), new(big.Int).Neg(r.low)}
}

func (r *result) mul(s *result) *result {
	if r == nil || s == nil {
		return nil
	}
	var least, greatest *big.Rat
	for _, x := range []*big.Int{r.low, r.high} {
		for _, y := range []*big.Int{s.low, s.high} {
			product := new(big.Rat).SetFrac(new(big.Int).Mul(x, y), big.NewInt(filter.Scale))
			if least == nil || product.Cmp(least) < 0 {
				least = product
			}
			if greatest == nil || product.Cmp(greatest) > 0 {
				greatest = product
			}
		}
	}
	return (&result{down(least), up(greatest)}).proper()
}

func (r *result) sqrt() *result {
	if r == nil || r.high.Sign() < 0 {
		return nil
	}
	low := new(big.Int)
	if r.low.Sign() > 0 {
		low.Mul(r.low, big.NewInt(filter.Scale))
		low.Sqrt(low)
	}
	square := new(big.Int).Mul(r.high, big.NewInt(filter.Scale))
	high := new(big.Int).Sqrt(square)
	if new(big.Int).Mul(high, high).Cmp(square) < 0 {
		high.Add(high, big.NewInt(1))
	}
	return (&result{low, high}).proper()
}

// sign returns the sign of all the numbers, and whether they have the same.
func (r *result) sign() (int, bool) {
	if r == nil || r.low.Sign() != r.high.Sign() {
		return 0, false
	}
	return r.low.Sign(), true
}

func fromRoot(v value) *result {
	if v.b.Sign() == 0 {
		return fromRat(v.a)
	}
	if v.c.Sign() < 0 {
		return nil
	}
	return fromRat(v.a).add(fromRat(v.b).mul(fromRat(v.c).sqrt()))
}

// placed is a line a x + b y = c and a point, as a reference.
type placed struct {
	a, b, c *big.Rat
	x, y    value
}

func (p placed) line() api.Line { return api.Line{A: ratOf(p.a), B: ratOf(p.b), C: ratOf(p.c)} }
func (p placed) point() api.Point {
	x, y := rootOf(p.x), rootOf(p.y)
	return api.Point{AX: x.A, BX: x.B, AY: y.A, BY: y.B, C: x.C}
}

// side returns the sign that intervals decide.
func (p placed) side() (int, bool) {
	x, y := fromRat(p.a).mul(fromRoot(p.x)), fromRat(p.b).mul(fromRoot(p.y))
	return x.add(y).add(fromRat(p.c).neg()).sign()
}

// exact returns the sign of a x + b y - c.
func (p placed) exact() int {
	a := sub(add(mul(p.a, p.x.a), mul(p.b, p.y.a)), p.c)
	return value{a, add(mul(p.a, p.x.b), mul(p.b, p.y.b)), p.x.c}.sign()
}
