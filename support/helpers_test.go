package support_test

import (
	"fmt"
	"math/big"
	"math/rand"
	"slices"
	"strings"

	"swarf/api"
)

// intOf makes an api.Int from its definition, without package integer.
func intOf(n *big.Int) api.Int {
	a := api.Int{Neg: n.Sign() < 0}
	rest, limb := new(big.Int).Abs(n), new(big.Int)
	for rest.Sign() != 0 {
		rest.DivMod(rest, big.NewInt(1000000000), limb)
		a.Limbs = append(a.Limbs, uint32(limb.Uint64()))
	}
	return a
}

// ratOf makes an api.Rat from its definition, without package rational.
func ratOf(x *big.Rat) api.Rat { return api.Rat{Num: intOf(x.Num()), Den: intOf(x.Denom())} }

// bigOf returns the integer that a stands for.
func bigOf(a api.Int) *big.Int {
	n := new(big.Int)
	for _, limb := range slices.Backward(a.Limbs) {
		n.Mul(n, big.NewInt(1000000000)).Add(n, big.NewInt(int64(limb)))
	}
	if a.Neg {
		n.Neg(n)
	}
	return n
}

// numberOf returns the quotient that a stands for.
func numberOf(a api.Rat) *big.Rat { return new(big.Rat).SetFrac(bigOf(a.Num), bigOf(a.Den)) }

// number returns the quotient with a text, which need not be in lowest terms.
func number(s string) *big.Rat {
	x, ok := new(big.Rat).SetString(s)
	if !ok {
		panic(s)
	}
	return x
}

// numbers returns the quotients of a text with spaces.
func numbers(s string) []*big.Rat {
	var list []*big.Rat
	for _, word := range strings.Fields(s) {
		list = append(list, number(word))
	}
	return list
}

func add(x, y *big.Rat) *big.Rat { return new(big.Rat).Add(x, y) }
func sub(x, y *big.Rat) *big.Rat { return new(big.Rat).Sub(x, y) }
func mul(x, y *big.Rat) *big.Rat { return new(big.Rat).Mul(x, y) }
func quo(x, y *big.Rat) *big.Rat { return new(big.Rat).Quo(x, y) }
func neg(x *big.Rat) *big.Rat    { return new(big.Rat).Neg(x) }
func zero() *big.Rat             { return new(big.Rat) }

// sameInt reports whether two integers have the same form.
func sameInt(a, b api.Int) bool { return a.Neg == b.Neg && slices.Equal(a.Limbs, b.Limbs) }

// sameRat, sameVec, sameLine and sameCircle report whether all numbers have the same form.
func sameRat(a, b api.Rat) bool { return sameInt(a.Num, b.Num) && sameInt(a.Den, b.Den) }
func sameVec(v, w api.Vec) bool { return sameRat(v.X, w.X) && sameRat(v.Y, w.Y) }
func sameLine(l, m api.Line) bool {
	return sameRat(l.A, m.A) && sameRat(l.B, m.B) && sameRat(l.C, m.C)
}
func sameCircle(c, d api.Circle) bool {
	return sameRat(c.X, d.X) && sameRat(c.Y, d.Y) && sameRat(c.Q, d.Q)
}

// vec is a rational vector, as a reference.
type vec struct{ x, y *big.Rat }

// String shows the numbers; without it, failed tests would show addresses.
func (v vec) String() string { return fmt.Sprint(v.x, v.y) }

// vecFrom returns the vector whose text consists of x and y.
func vecFrom(s string) vec {
	f := numbers(s)
	return vec{f[0], f[1]}
}

// vecOf makes an api.Vec from its definition.
func vecOf(v vec) api.Vec { return api.Vec{X: ratOf(v.x), Y: ratOf(v.y)} }

func (v vec) plus(w vec) vec          { return vec{add(v.x, w.x), add(v.y, w.y)} }
func (v vec) minus(w vec) vec         { return vec{sub(v.x, w.x), sub(v.y, w.y)} }
func (v vec) times(k *big.Rat) vec    { return vec{mul(v.x, k), mul(v.y, k)} }
func (v vec) dot(w vec) *big.Rat      { return add(mul(v.x, w.x), mul(v.y, w.y)) }
func (v vec) turnedLeft() vec         { return vec{neg(v.y), v.x} }
func (v vec) equals(w vec) bool       { return v.x.Cmp(w.x) == 0 && v.y.Cmp(w.y) == 0 }
func (v vec) isParallelTo(w vec) bool { return v.dot(w.turnedLeft()).Sign() == 0 }
func (v vec) squareTo(w vec) *big.Rat { return v.minus(w).dot(v.minus(w)) }
func (v vec) place() place            { return place{v.x, zero(), v.y, zero(), zero()} }

// on reports whether v belongs to a line, and isStraight whether v, w and u belong to one line.
func (v vec) on(l line) bool           { return v.dot(l.normal()).Cmp(l.c) == 0 }
func (v vec) isStraight(w, u vec) bool { return w.minus(v).isParallelTo(u.minus(v)) }

// line contains the points with a x + b y = c, as a reference.
type line struct{ a, b, c *big.Rat }

// String shows the numbers.
func (l line) String() string { return fmt.Sprint(l.a, l.b, l.c) }

// lineFrom returns the line whose text consists of a, b and c.
func lineFrom(s string) line {
	f := numbers(s)
	return line{f[0], f[1], f[2]}
}

// lineOf makes an api.Line from its definition.
func lineOf(l line) api.Line { return api.Line{A: ratOf(l.a), B: ratOf(l.b), C: ratOf(l.c)} }

// normal returns a vector that is perpendicular to the line.
func (l line) normal() vec { return vec{l.a, l.b} }

// times returns the line with all fields multiplied by k.
func (l line) times(k *big.Rat) line { return line{mul(l.a, k), mul(l.b, k), mul(l.c, k)} }

// moved returns the line that contains the points of l with v added.
func (l line) moved(v vec) line { return line{l.a, l.b, add(l.c, l.normal().dot(v))} }

// circle has a center and the square of its radius, as a reference.
type circle struct{ x, y, q *big.Rat }

// String shows the numbers.
func (c circle) String() string { return fmt.Sprint(c.x, c.y, c.q) }

// circleFrom returns the circle whose text consists of x, y and q.
func circleFrom(s string) circle {
	f := numbers(s)
	return circle{f[0], f[1], f[2]}
}

// circleOf makes an api.Circle from its definition.
func circleOf(c circle) api.Circle { return api.Circle{X: ratOf(c.x), Y: ratOf(c.y), Q: ratOf(c.q)} }

// center returns the center.
func (c circle) center() vec { return vec{c.x, c.y} }

// moved returns the circle that contains the points of c with v added.
func (c circle) moved(v vec) circle { return circle{add(c.x, v.x), add(c.y, v.y), c.q} }

// value is a + b sqrt(c), as a reference.
type value struct{ a, b, c *big.Rat }

// sign returns the sign of the value; c is not negative.
func (v value) sign() int {
	a, b := v.a.Sign(), v.b.Sign()*v.c.Sign()
	if a*b >= 0 {
		return max(-1, min(1, a+b))
	}
	// The part with the greater square decides.
	return a * mul(v.a, v.a).Cmp(mul(mul(v.b, v.b), v.c))
}

// place is the point (ax + bx sqrt(c), ay + by sqrt(c)), as a reference: c is not a square unless bx and by are 0.
type place struct{ ax, bx, ay, by, c *big.Rat }

// String shows the numbers.
func (p place) String() string { return fmt.Sprint(p.ax, p.bx, p.ay, p.by, p.c) }

// parse returns the place whose text consists of ax, bx, ay, by and c.
func parse(s string) place {
	f := numbers(s)
	return place{f[0], f[1], f[2], f[3], f[4]}
}

// pointOf makes an api.Point from its definition.
func pointOf(p place) api.Point {
	c := p.c
	if p.bx.Sign() == 0 && p.by.Sign() == 0 {
		c = zero()
	}
	return api.Point{AX: ratOf(p.ax), BX: ratOf(p.bx), AY: ratOf(p.ay), BY: ratOf(p.by), C: ratOf(c)}
}

// pointFrom returns the point whose text consists of ax, bx, ay, by and c.
func pointFrom(s string) api.Point { return pointOf(parse(s)) }

// another returns the same place with another radicand, unless it is rational.
func (p place) another(k *big.Rat) place {
	return place{p.ax, quo(p.bx, k), p.ay, quo(p.by, k), mul(p.c, mul(k, k))}
}

// side returns the sign of a x + b y - c at a place.
func (p place) side(l line) int {
	a := sub(vec{p.ax, p.ay}.dot(l.normal()), l.c)
	return value{a, vec{p.bx, p.by}.dot(l.normal()), p.c}.sign()
}

// inside returns the sign of the difference between the square of the radius and that of the distance from the center.
func (p place) inside(c circle) int {
	d, b := vec{p.ax, p.ay}.minus(c.center()), vec{p.bx, p.by}
	square := add(d.dot(d), mul(b.dot(b), p.c))
	return -value{sub(square, c.q), mul(d.dot(b), big.NewRat(2, 1)), p.c}.sign()
}

// isSquare reports whether x is the square of a rational number.
func isSquare(x *big.Rat) bool {
	for _, n := range []*big.Int{x.Num(), x.Denom()} {
		if s := new(big.Int).Sqrt(n); s.Mul(s, s).Cmp(n) != 0 {
			return false
		}
	}
	return true
}

// pow10 returns 10^n, and fraction 10^-n.
func pow10(n int) *big.Int {
	return new(big.Int).Exp(big.NewInt(10), big.NewInt(int64(n)), nil)
}
func fraction(n int) *big.Rat { return new(big.Rat).SetFrac(big.NewInt(1), pow10(n)) }

// nines returns the text of 10^n - 1.
func nines(n int) string { return strings.Repeat("9", n) }

// randomRat returns a number whose parts have at most the given number of digits; some are integers, and some 0.
func randomRat(r *rand.Rand, digits int) *big.Rat {
	num := new(big.Int).Rand(r, pow10(1+r.Intn(digits)))
	den := new(big.Int).Rand(r, pow10(1+r.Intn(digits)))
	den.Add(den, big.NewInt(1))
	switch r.Intn(6) {
	case 0:
		den.SetInt64(1)
	case 1:
		num.SetInt64(0)
	}
	if r.Intn(2) == 0 {
		num.Neg(num)
	}
	return new(big.Rat).SetFrac(num, den)
}

// randomPositive returns a number that is greater than 0.
func randomPositive(r *rand.Rand, digits int) *big.Rat {
	for {
		if x := randomRat(r, digits); x.Sign() != 0 {
			return x.Abs(x)
		}
	}
}

// randomRadicand returns a positive number that is not a square.
func randomRadicand(r *rand.Rand, digits int) *big.Rat {
	for {
		if c := randomPositive(r, digits); !isSquare(c) {
			return c
		}
	}
}

// randomVec returns a vector.
func randomVec(r *rand.Rand, digits int) vec { return vec{randomRat(r, digits), randomRat(r, digits)} }

// randomLine returns a line.
func randomLine(r *rand.Rand, digits int) line {
	for {
		l := line{randomRat(r, digits), randomRat(r, digits), randomRat(r, digits)}
		if l.a.Sign() != 0 || l.b.Sign() != 0 {
			return l
		}
	}
}

// randomPlace returns a place; one or both coordinates of some are rational.
func randomPlace(r *rand.Rand, digits int) place {
	return place{randomRat(r, digits), randomRat(r, digits), randomRat(r, digits), randomRat(r, digits), randomRadicand(r, digits)}
}

// vectors returns rational vectors of all signs and sizes.
func vectors() []vec {
	var list []vec
	for _, s := range []string{"0 0", "1 0", "0 1", "-1 0", "-1 1", "2 -2", "3/2 -5/6", "-7 1/3", nines(40) + " 1/" + nines(40), "1000000000 -999999999/1000000000"} {
		list = append(list, vecFrom(s))
	}
	r := rand.New(rand.NewSource(1))
	for i := range 20 {
		list = append(list, randomVec(r, 1+i))
	}
	return list
}

// lines returns lines of all directions and sizes.
func lines() []line {
	var list []line
	for _, s := range []string{"1 0 0", "0 1 0", "0 2 0", "0 -1 3", "-2 0 1/3", "1 1 0", "1 -1 0", "1 1 1", "3 4 -5", "1/2 -2/3 5/7", "1 1 " + nines(40), nines(30) + " 1/" + nines(30) + " 1"} {
		list = append(list, lineFrom(s))
	}
	r := rand.New(rand.NewSource(2))
	for i := range 20 {
		list = append(list, randomLine(r, 1+i))
	}
	return list
}

// circles returns circles of all sizes; the radii of many are not rational.
func circles() []circle {
	var list []circle
	for _, s := range []string{"0 0 1", "0 0 2", "1 0 1", "1 0 6", "-3 4 25", "1/2 -1/3 4/9", "0 0 1/" + nines(40), "1 -1 " + nines(40), nines(30) + " 0 3/7"} {
		list = append(list, circleFrom(s))
	}
	r := rand.New(rand.NewSource(3))
	for i := range 20 {
		list = append(list, circle{randomRat(r, 1+i), randomRat(r, 1+i), randomPositive(r, 1+i)})
	}
	return list
}

// places returns places of all kinds and sizes.
func places() []place {
	var list []place
	for _, s := range []string{"0 0 0 0 0", "1 0 0 0 0", "0 0 -1 0 0", "1 0 1 0 0", "3/2 0 -5/7 0 0", "1 1 3 0 2", "3 0 1 1 2", "0 1 0 1 2", "0 1 0 -1 2", "0 1/2 0 1/2 2", "0 1 0 1 1/2", "1/2 0 0 1 3/4", "1 0 0 2 6", "0 -2 0 0 2", "7/5 1/3 -2/3 5 7/15", nines(30) + " -1 0 1/" + nines(30) + " 2"} {
		list = append(list, parse(s))
	}
	r := rand.New(rand.NewSource(4))
	for i := range 20 {
		p := randomPlace(r, 1+i)
		list = append(list, p, p.another(randomPositive(r, 3)), place{p.ax, zero(), p.ay, zero(), zero()})
	}
	return list
}

// factors returns numbers of both signs that are not 0.
func factors() []*big.Rat {
	return numbers("1 -1 2 -3/2 7/9 1000000000 -1/1000000000 -" + nines(30) + "/7")
}
