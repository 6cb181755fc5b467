package root_test

import (
	"math/big"
	"math/rand"
	"slices"
	"strings"
	"testing"

	"swarf/api"
	"swarf/root"
)

// value is a + b sqrt(c), as a reference: c is not a square unless b is 0.
type value struct{ a, b, c *big.Rat }

// intOf makes an api.Int from its definition, without package integer.
func intOf(n *big.Int) api.Int {
	a := api.Int{Neg: n.Sign() < 0}
	rest, limb := new(big.Int).Abs(n), new(big.Int)
	for rest.Sign() != 0 {
		rest.DivMod(rest, big.NewInt(1000000000), limb)
		a.Limbs = append(a.Limbs, uint32(limb.Uint64()))
	}
	return a
}

// bigOf returns the integer that a stands for.
func bigOf(a api.Int) *big.Int {
	n := new(big.Int)
	for _, limb := range slices.Backward(a.Limbs) {
		n.Mul(n, big.NewInt(1000000000)).Add(n, big.NewInt(int64(limb)))
	}
	if a.Neg {
		n.Neg(n)
	}
	return n
}

// ratOf makes an api.Rat from its definition, without package rational.
func ratOf(x *big.Rat) api.Rat { return api.Rat{Num: intOf(x.Num()), Den: intOf(x.Denom())} }

// rootOf makes an api.Root from its definition, without package root.
func rootOf(v value) api.Root {
	if v.b.Sign() == 0 {
		return api.Root{A: ratOf(v.a), B: ratOf(new(big.Rat)), C: ratOf(new(big.Rat))}
	}
	return api.Root{A: ratOf(v.a), B: ratOf(v.b), C: ratOf(v.c)}
}

// number returns the quotient with a text, which need not be in lowest terms.
func number(s string) *big.Rat {
	x, ok := new(big.Rat).SetString(s)
	if !ok {
		panic(s)
	}
	return x
}

// parse returns the value whose text consists of a, b and c.
func parse(s string) value {
	f := strings.Fields(s)
	return value{number(f[0]), number(f[1]), number(f[2])}
}

// rootFrom returns the root whose text consists of a, b and c.
func rootFrom(s string) api.Root { return rootOf(parse(s)) }

// sameInt reports whether two integers have the same form.
func sameInt(a, b api.Int) bool { return a.Neg == b.Neg && slices.Equal(a.Limbs, b.Limbs) }

// sameRat reports whether two numbers have the same form.
func sameRat(a, b api.Rat) bool { return sameInt(a.Num, b.Num) && sameInt(a.Den, b.Den) }

// same reports whether two roots have the same form.
func same(r, s api.Root) bool {
	return sameRat(r.A, s.A) && sameRat(r.B, s.B) && sameRat(r.C, s.C)
}

// check compares a result with the right root.
func check(t *testing.T, got api.Root, want value, call string, args ...value) {
	t.Helper()
	if !same(got, rootOf(want)) || !root.Valid(got) {
		t.Fatalf("P3.1: %s of %v: got %v, want %v", call, args, got, want)
	}
}

// isSquare reports whether x is the square of a rational number.
func isSquare(x *big.Rat) bool {
	if x.Sign() < 0 {
		return false
	}
	for _, n := range []*big.Int{x.Num(), x.Denom()} {
		if s := new(big.Int).Sqrt(n); s.Mul(s, s).Cmp(n) != 0 {
			return false
		}
	}
	return true
}

func add(x, y *big.Rat) *big.Rat { return new(big.Rat).Add(x, y) }
func mul(x, y *big.Rat) *big.Rat { return new(big.Rat).Mul(x, y) }
func neg(x *big.Rat) *big.Rat    { return new(big.Rat).Neg(x) }

// precision is far greater than what the numbers of the tests need.
const precision = 6000

// float returns the value with so many digits that its sign and its floor are certain.
func (v value) float() *big.Float {
	a := new(big.Float).SetPrec(precision).SetRat(v.a)
	if v.b.Sign() == 0 {
		return a
	}
	b := new(big.Float).SetPrec(precision).SetRat(v.b)
	c := new(big.Float).SetPrec(precision).SetRat(v.c)
	return a.Add(a, b.Mul(b, c.Sqrt(c)))
}

// sign returns the sign of the value.
func (v value) sign() int { return v.float().Sign() }

// floor returns the greatest integer that is not greater than the value.
func (v value) floor() *big.Int {
	if v.b.Sign() == 0 {
		// Since the denominator is positive, Euclid's division is the one that rounds down.
		return new(big.Int).Div(v.a.Num(), v.a.Denom())
	}
	x := v.float()
	n, _ := x.Int(nil)
	if x.Sign() < 0 {
		n.Sub(n, big.NewInt(1))
	}
	return n
}

// cmp returns the sign of the value minus x.
func (v value) cmp(x *big.Rat) int {
	return value{new(big.Rat).Sub(v.a, x), v.b, v.c}.sign()
}

// pow10 returns 10^n.
func pow10(n int) *big.Int {
	return new(big.Int).Exp(big.NewInt(10), big.NewInt(int64(n)), nil)
}

// nines returns the text of 10^n - 1.
func nines(n int) string { return strings.Repeat("9", n) }

// zeros returns the text of n zeros.
func zeros(n int) string { return strings.Repeat("0", n) }

// randomRat returns a number whose parts have at most the given number of digits; some are integers, and some 0.
func randomRat(r *rand.Rand, digits int) *big.Rat {
	num := new(big.Int).Rand(r, pow10(1+r.Intn(digits)))
	den := new(big.Int).Rand(r, pow10(1+r.Intn(digits)))
	den.Add(den, big.NewInt(1))
	switch r.Intn(6) {
	case 0:
		den.SetInt64(1)
	case 1:
		num.SetInt64(0)
	}
	if r.Intn(2) == 0 {
		num.Neg(num)
	}
	return new(big.Rat).SetFrac(num, den)
}

// randomRadicand returns a positive number that is not a square.
func randomRadicand(r *rand.Rand, digits int) *big.Rat {
	for {
		c := randomRat(r, digits)
		c.Abs(c)
		if !isSquare(c) {
			return c
		}
	}
}

// randomValue returns a value with the radicand c, which often is near to 0.
func randomValue(r *rand.Rand, digits int, c *big.Rat) value {
	v := value{randomRat(r, digits), randomRat(r, digits), c}
	if r.Intn(3) == 0 {
		nearest := value{new(big.Rat), neg(v.b), c}.floor()
		v.a = new(big.Rat).SetInt(nearest.Add(nearest, big.NewInt(r.Int63n(2))))
	}
	return v
}

// radicands returns radicands of several forms: with and without square factors, with and without a square as one part, small ones and great ones.
func radicands() []*big.Rat {
	var list []*big.Rat
	for _, s := range []string{"2", "3", "8", "1/2", "2/9", "9/2", "4/3", "3/4", "7/15", "1000000000", "1/1000000000", "999999999999999999", "1000000000000000001", "1/" + nines(36), nines(30) + "/" + nines(31), "1" + nines(60) + "/7"} {
		list = append(list, number(s))
	}
	r := rand.New(rand.NewSource(1))
	for i := range 10 {
		list = append(list, randomRadicand(r, 1+5*i))
	}
	return list
}

// family returns values with the radicand c: all signs of a and b, and numbers of several lengths.
func family(c *big.Rat) []value {
	var list []value
	for _, a := range []string{"0", "1", "-1", "3/2", "-5/6", nines(20) + "/7"} {
		for _, b := range []string{"0", "1", "-1", "2/3", "-3", "-" + nines(19) + "/1000000000"} {
			list = append(list, value{number(a), number(b), c})
		}
	}
	r := rand.New(rand.NewSource(2))
	for i := range 20 {
		list = append(list, randomValue(r, 1+2*i, c))
	}
	return list
}

// forAll calls f for values with all the radicands.
func forAll(f func(v value)) {
	for _, c := range radicands() {
		for _, v := range family(c) {
			f(v)
		}
	}
}

// forPairs calls f for pairs of values with a common radicand.
func forPairs(f func(v, w value)) {
	for _, c := range radicands() {
		list := family(c)
		for _, v := range list {
			for _, w := range list {
				f(v, w)
			}
		}
	}
}

// convergents returns values whose a and b differ so little that only their last digits decide: the quotients of their parts are the convergents of sqrt(2).
func convergents() []value {
	var list []value
	p, q := big.NewInt(1), big.NewInt(1)
	for range 500 {
		a, b := new(big.Rat).SetInt(p), new(big.Rat).SetInt(q)
		list = append(list, value{a, neg(b), big.NewRat(2, 1)}, value{neg(a), b, big.NewRat(2, 1)})
		p, q = new(big.Int).Add(p, new(big.Int).Lsh(q, 1)), new(big.Int).Add(p, q)
	}
	return list
}
