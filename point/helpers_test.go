package point_test

import (
	"fmt"
	"math/big"
	"math/rand"
	"slices"
	"strings"
	"testing"

	"swarf/api"
	"swarf/point"
)

// intOf makes an api.Int from its definition, without package integer.
func intOf(n *big.Int) api.Int {
	a := api.Int{Neg: n.Sign() < 0}
	rest, limb := new(big.Int).Abs(n), new(big.Int)
	for rest.Sign() != 0 {
		rest.DivMod(rest, big.NewInt(1000000000), limb)
		a.Limbs = append(a.Limbs, uint32(limb.Uint64()))
	}
	return a
}

// bigOf returns the integer that a stands for.
func bigOf(a api.Int) *big.Int {
	n := new(big.Int)
	for _, limb := range slices.Backward(a.Limbs) {
		n.Mul(n, big.NewInt(1000000000)).Add(n, big.NewInt(int64(limb)))
	}
	if a.Neg {
		n.Neg(n)
	}
	return n
}

// ratOf makes an api.Rat from its definition, without package rational.
func ratOf(x *big.Rat) api.Rat { return api.Rat{Num: intOf(x.Num()), Den: intOf(x.Denom())} }

// numberOf returns the quotient that a stands for.
func numberOf(a api.Rat) *big.Rat { return new(big.Rat).SetFrac(bigOf(a.Num), bigOf(a.Den)) }

// number returns the quotient with a text, which need not be in lowest terms.
func number(s string) *big.Rat {
	x, ok := new(big.Rat).SetString(s)
	if !ok {
		panic(s)
	}
	return x
}

// numbers returns the quotients of a text with spaces.
func numbers(s string) []*big.Rat {
	var list []*big.Rat
	for _, word := range strings.Fields(s) {
		list = append(list, number(word))
	}
	return list
}

func add(x, y *big.Rat) *big.Rat { return new(big.Rat).Add(x, y) }
func sub(x, y *big.Rat) *big.Rat { return new(big.Rat).Sub(x, y) }
func mul(x, y *big.Rat) *big.Rat { return new(big.Rat).Mul(x, y) }
func neg(x *big.Rat) *big.Rat    { return new(big.Rat).Neg(x) }
func zero() *big.Rat             { return new(big.Rat) }
func one() *big.Rat              { return big.NewRat(1, 1) }

// sameInt reports whether two integers have the same form.
func sameInt(a, b api.Int) bool { return a.Neg == b.Neg && slices.Equal(a.Limbs, b.Limbs) }

// sameRat, sameRoot, sameVec and same report whether all numbers have the same form.
func sameRat(a, b api.Rat) bool { return sameInt(a.Num, b.Num) && sameInt(a.Den, b.Den) }
func sameRoot(r, s api.Root) bool {
	return sameRat(r.A, s.A) && sameRat(r.B, s.B) && sameRat(r.C, s.C)
}
func sameVec(v, w api.Vec) bool { return sameRat(v.X, w.X) && sameRat(v.Y, w.Y) }
func same(p, q api.Point) bool {
	return sameRat(p.AX, q.AX) && sameRat(p.BX, q.BX) && sameRat(p.AY, q.AY) && sameRat(p.BY, q.BY) && sameRat(p.C, q.C)
}

// value is a + b sqrt(c), as a reference: c is not a square unless b is 0.
type value struct{ a, b, c *big.Rat }

// String shows the numbers; without it, failed tests would show addresses.
func (v value) String() string { return fmt.Sprint(v.a, v.b, v.c) }

// parseValue returns the value whose text consists of a, b and c.
func parseValue(s string) value {
	f := numbers(s)
	return value{f[0], f[1], f[2]}
}

// rootOf makes an api.Root from its definition, without package root.
func rootOf(v value) api.Root {
	if v.b.Sign() == 0 {
		return api.Root{A: ratOf(v.a), B: ratOf(zero()), C: ratOf(zero())}
	}
	return api.Root{A: ratOf(v.a), B: ratOf(v.b), C: ratOf(v.c)}
}

// rootFrom returns the root whose text consists of a, b and c.
func rootFrom(s string) api.Root { return rootOf(parseValue(s)) }

// plain returns x as a value.
func plain(x *big.Rat) value { return value{x, zero(), zero()} }

// times returns the product of two values with the same c.
func (v value) times(w value) value {
	return value{add(mul(v.a, w.a), mul(mul(v.b, w.b), v.c)), add(mul(v.a, w.b), mul(v.b, w.a)), v.c}
}

// plus returns the sum of two values with the same c.
func (v value) plus(w value) value { return value{add(v.a, w.a), add(v.b, w.b), v.c} }

// cmp returns the sign of v - w.
func (v value) cmp(w value) int {
	return signOfRoots(signed{sub(v.a, w.a), one()}, signed{v.b, v.c}, signed{neg(w.b), w.c})
}

// signed is a root with a factor.
type signed struct{ factor, radicand *big.Rat }

// signOfRoots returns the sign of a sum of a rational number and two roots.
func signOfRoots(terms ...signed) int {
	// With this common denominator, the sum is an algebraic integer: the roots are those of integers.
	den := big.NewInt(1)
	for _, x := range terms {
		den.Mul(den, x.factor.Denom()).Mul(den, x.radicand.Denom())
	}
	whole := new(big.Rat).SetInt(new(big.Int).Mul(den, den))
	size := 2
	for _, x := range terms {
		size += mul(mul(x.factor, x.factor), mul(x.radicand, whole)).Num().BitLen()/2 + 1
	}
	// The product of those of the four conjugates that are different is an integer that is not 0, unless the value is 0; and none of them is greater than 2^size. So the value itself cannot be nearer to 0 than this.
	bits := 3 * size
	if sum := float(size+64, den, terms); sum.Sign() != 0 && sum.MantExp(nil) > -32 {
		return sum.Sign()
	}
	if sum := float(size+64+bits, den, terms); sum.MantExp(nil) >= -bits {
		return sum.Sign()
	}
	return 0
}

// float returns nearly the sum of roots, times den.
func float(precision int, den *big.Int, terms []signed) *big.Float {
	sum := new(big.Float).SetPrec(uint(precision))
	for _, x := range terms {
		root := new(big.Float).SetPrec(uint(precision)).SetRat(x.radicand)
		product := new(big.Float).SetPrec(uint(precision)).SetRat(x.factor)
		sum.Add(sum, product.Mul(product, root.Sqrt(root)))
	}
	return sum.Mul(sum, new(big.Float).SetInt(den))
}

// place is the point (ax + bx sqrt(c), ay + by sqrt(c)), as a reference: c is not a square unless bx and by are 0.
type place struct{ ax, bx, ay, by, c *big.Rat }

// String shows the numbers.
func (p place) String() string { return fmt.Sprint(p.ax, p.bx, p.ay, p.by, p.c) }

// parse returns the place whose text consists of ax, bx, ay, by and c.
func parse(s string) place {
	f := numbers(s)
	return place{f[0], f[1], f[2], f[3], f[4]}
}

// isRational reports whether both coordinates are rational.
func (p place) isRational() bool { return p.bx.Sign() == 0 && p.by.Sign() == 0 }

// x and y are the coordinates.
func (p place) x() value { return value{p.ax, p.bx, p.c} }
func (p place) y() value { return value{p.ay, p.by, p.c} }

// pointOf makes an api.Point from its definition.
func pointOf(p place) api.Point {
	c := p.c
	if p.isRational() {
		c = zero()
	}
	return api.Point{AX: ratOf(p.ax), BX: ratOf(p.bx), AY: ratOf(p.ay), BY: ratOf(p.by), C: ratOf(c)}
}

// pointFrom returns the point whose text consists of ax, bx, ay, by and c.
func pointFrom(s string) api.Point { return pointOf(parse(s)) }

// cmp compares two places by x, and then by y.
func (p place) cmp(q place) int {
	if order := p.x().cmp(q.x()); order != 0 {
		return order
	}
	return p.y().cmp(q.y())
}

// moved returns the place with x and y added.
func (p place) moved(x, y *big.Rat) place { return place{add(p.ax, x), p.bx, add(p.ay, y), p.by, p.c} }

// vec is a rational vector, as a reference.
type vec struct{ x, y *big.Rat }

// String shows the numbers.
func (v vec) String() string { return fmt.Sprint(v.x, v.y) }

// vecFrom returns the vector whose text consists of x and y.
func vecFrom(s string) vec {
	f := numbers(s)
	return vec{f[0], f[1]}
}

// vecOf makes an api.Vec from its definition.
func vecOf(v vec) api.Vec { return api.Vec{X: ratOf(v.x), Y: ratOf(v.y)} }

// check compares a result with the right point.
func check(t *testing.T, got api.Point, want place, call string, args ...any) {
	t.Helper()
	if !same(got, pointOf(want)) || !point.Valid(got) {
		t.Fatalf("P7.1: %s of %v: got %v, want %v", call, args, got, want)
	}
}

// isSquare reports whether x is the square of a rational number.
func isSquare(x *big.Rat) bool {
	for _, n := range []*big.Int{x.Num(), x.Denom()} {
		if s := new(big.Int).Sqrt(n); s.Mul(s, s).Cmp(n) != 0 {
			return false
		}
	}
	return true
}

// pow10 returns 10^n, and fraction 10^-n.
func pow10(n int) *big.Int {
	return new(big.Int).Exp(big.NewInt(10), big.NewInt(int64(n)), nil)
}
func fraction(n int) *big.Rat { return new(big.Rat).SetFrac(big.NewInt(1), pow10(n)) }

// nines returns the text of 10^n - 1, and zeros that of n zeros.
func nines(n int) string { return strings.Repeat("9", n) }
func zeros(n int) string { return strings.Repeat("0", n) }

// randomRat returns a number whose parts have at most the given number of digits; some are integers, and some 0.
func randomRat(r *rand.Rand, digits int) *big.Rat {
	num := new(big.Int).Rand(r, pow10(1+r.Intn(digits)))
	den := new(big.Int).Rand(r, pow10(1+r.Intn(digits)))
	den.Add(den, big.NewInt(1))
	switch r.Intn(6) {
	case 0:
		den.SetInt64(1)
	case 1:
		num.SetInt64(0)
	}
	if r.Intn(2) == 0 {
		num.Neg(num)
	}
	return new(big.Rat).SetFrac(num, den)
}

// randomPositive returns a number that is greater than 0.
func randomPositive(r *rand.Rand, digits int) *big.Rat {
	for {
		if x := randomRat(r, digits); x.Sign() != 0 {
			return x.Abs(x)
		}
	}
}

// randomRadicand returns a positive number that is not a square.
func randomRadicand(r *rand.Rand, digits int) *big.Rat {
	for {
		if c := randomPositive(r, digits); !isSquare(c) {
			return c
		}
	}
}

// randomVec returns a vector.
func randomVec(r *rand.Rand, digits int) vec { return vec{randomRat(r, digits), randomRat(r, digits)} }

// randomPlace returns a place; one or both coordinates of some are rational.
func randomPlace(r *rand.Rand, digits int) place {
	return place{randomRat(r, digits), randomRat(r, digits), randomRat(r, digits), randomRat(r, digits), randomRadicand(r, digits)}
}

// another returns the same place with another radicand, unless it is rational.
func (p place) another(r *rand.Rand) place {
	k := randomPositive(r, 3)
	return place{p.ax, new(big.Rat).Quo(p.bx, k), p.ay, new(big.Rat).Quo(p.by, k), mul(p.c, mul(k, k))}
}

// places returns places of all kinds and sizes. Many are followed by the same one with another radicand, and by places that are very near to it or have one coordinate in common with it.
func places() []place {
	var list []place
	for _, s := range []string{"0 0 0 0 0", "1 0 0 0 0", "0 0 1 0 0", "-1 0 3/2 0 0", "3 0 -1 0 0", "3 0 4 0 0", "3 0 -4 0 0", "1 1 3 0 2", "3 0 1 1 2", "0 1 0 0 8", "0 2 0 0 2", "0 0 0 1 8", "0 0 0 2 2", "0 1 0 1 2", "0 1/2 0 1/2 8", "0 -1 0 -1 2", "0 1 0 -1 2", "0 -1 0 1 2", "1 0 0 2 6", "1 0 0 -2 6", "1 0 0 1 24", "1/2 0 0 1 3/4", "1/2 0 0 -1 3/4", "1/2 0 0 1/2 3", "0 1 0 1 1/2", "0 1/2 0 1/2 2", "0 1 1 1 3", "1 1 0 1 3", "7/5 1/3 -2/3 5 7/15", "0 1 0 -1 1/" + nines(30), "0 1 1 1 " + nines(40), nines(30) + " -1 0 1/" + nines(30) + " 2", "35184372088832 0 0 35184372088832 2"} {
		list = append(list, parse(s))
	}
	r := rand.New(rand.NewSource(1))
	for i := range 24 {
		p := randomPlace(r, 1+i)
		list = append(list, p, p.another(r), p.moved(fraction(1+i), zero()), p.moved(zero(), neg(fraction(3*i))).another(r))
		list = append(list, place{p.ax, p.bx, randomRat(r, 5), p.by, p.c}, place{p.ax, p.bx, randomRat(r, 2), zero(), p.c}.another(r), place{p.ax, zero(), p.ay, p.by, p.c})
	}
	return list
}
