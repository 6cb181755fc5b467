package decimal_test

import (
	"math/big"
	"math/rand"
	"slices"
	"strings"

	"swarf/api"
)

// intOf makes an api.Int from its definition, without package integer.
func intOf(n *big.Int) api.Int {
	a := api.Int{Neg: n.Sign() < 0}
	rest, limb := new(big.Int).Abs(n), new(big.Int)
	for rest.Sign() != 0 {
		rest.DivMod(rest, big.NewInt(1000000000), limb)
		a.Limbs = append(a.Limbs, uint32(limb.Uint64()))
	}
	return a
}

// bigOf returns the integer that a stands for.
func bigOf(a api.Int) *big.Int {
	n := new(big.Int)
	for _, limb := range slices.Backward(a.Limbs) {
		n.Mul(n, big.NewInt(1000000000)).Add(n, big.NewInt(int64(limb)))
	}
	if a.Neg {
		n.Neg(n)
	}
	return n
}

// ratOf makes an api.Rat from its definition, without package rational.
func ratOf(x *big.Rat) api.Rat { return api.Rat{Num: intOf(x.Num()), Den: intOf(x.Denom())} }

// number returns the quotient with a text, which need not be in lowest terms.
func number(s string) *big.Rat {
	x, ok := new(big.Rat).SetString(s)
	if !ok {
		panic(s)
	}
	return x
}

func add(x, y *big.Rat) *big.Rat { return new(big.Rat).Add(x, y) }
func sub(x, y *big.Rat) *big.Rat { return new(big.Rat).Sub(x, y) }
func mul(x, y *big.Rat) *big.Rat { return new(big.Rat).Mul(x, y) }
func neg(x *big.Rat) *big.Rat    { return new(big.Rat).Neg(x) }
func half() *big.Rat             { return big.NewRat(1, 2) }

// sameInt reports whether two integers have the same form.
func sameInt(a, b api.Int) bool { return a.Neg == b.Neg && slices.Equal(a.Limbs, b.Limbs) }

// same reports whether two numbers have the same form.
func same(a, b api.Rat) bool { return sameInt(a.Num, b.Num) && sameInt(a.Den, b.Den) }

// pow10 returns 10^n.
func pow10(n int) *big.Int {
	return new(big.Int).Exp(big.NewInt(10), big.NewInt(int64(n)), nil)
}

// power returns 10^n as a rational number, and fraction 10^-n.
func power(n int) *big.Rat    { return new(big.Rat).SetInt(pow10(n)) }
func fraction(n int) *big.Rat { return new(big.Rat).SetFrac(big.NewInt(1), pow10(n)) }

// nines returns the text of 10^n - 1, and zeros that of n zeros.
func nines(n int) string { return strings.Repeat("9", n) }
func zeros(n int) string { return strings.Repeat("0", n) }

// floor returns the greatest integer that is not greater than x.
func floor(x *big.Rat) *big.Int {
	// Since the denominator is positive, Euclid's division is the one that rounds down.
	return new(big.Int).Div(x.Num(), x.Denom())
}

// rounded returns the rounded value of x.
func rounded(x *big.Rat) *big.Int { return floor(add(x, half())) }

// randomRat returns a number whose parts have at most the given number of digits; some are integers, and some 0.
func randomRat(r *rand.Rand, digits int) *big.Rat {
	num := new(big.Int).Rand(r, pow10(1+r.Intn(digits)))
	den := new(big.Int).Rand(r, pow10(1+r.Intn(digits)))
	den.Add(den, big.NewInt(1))
	switch r.Intn(6) {
	case 0:
		den.SetInt64(1)
	case 1:
		num.SetInt64(0)
	}
	if r.Intn(2) == 0 {
		num.Neg(num)
	}
	return new(big.Rat).SetFrac(num, den)
}

// randomDecimal returns a number of at most the given number of digits behind the point.
func randomDecimal(r *rand.Rand, digits int) *big.Rat {
	num := new(big.Int).Rand(r, pow10(1+r.Intn(digits+9)))
	if r.Intn(2) == 0 {
		num.Neg(num)
	}
	return new(big.Rat).SetFrac(num, pow10(r.Intn(digits+1)))
}

// samples returns numbers with and without decimal texts, always the same ones.
func samples() []*big.Rat {
	var list []*big.Rat
	for _, s := range []string{"0", "1", "5", "10", "1000", "1000000000", "1/2", "1/4", "5/4", "3/2", "5/2", "1/5", "1/10", "1/20", "19/20", "99/100", "1/100", "1/3", "2/3", "1/7", "1/6", "1/15", "1/1000", "999/1000", "1999/2000", "1/1024", "1/1048576", "1/3125", "123456789/1000000000", nines(30), nines(30) + "/1" + zeros(30), "1/1" + zeros(29), "1/1" + zeros(30), "1/1" + zeros(31), "7/2" + zeros(29), "7/2" + zeros(30), "1/1073741824", "1/2147483648", "1/931322574615478515625", "1/4656612873077392578125", "9223372036854775807", "9223372036854775808", nines(200) + "/7", "1/" + nines(100), nines(60) + "/1" + zeros(25)} {
		x := number(s)
		list = append(list, x, neg(x))
	}
	r := rand.New(rand.NewSource(1))
	for i := range 200 {
		list = append(list, randomRat(r, 1+i/4), randomDecimal(r, i%31), randomDecimal(r, i%8))
	}
	return list
}

// value is a + b sqrt(c), as a reference: c is not a square unless b is 0.
type value struct{ a, b, c *big.Rat }

// parse returns the value whose text consists of a, b and c.
func parse(s string) value {
	f := strings.Fields(s)
	return value{number(f[0]), number(f[1]), number(f[2])}
}

// rootOf makes an api.Root from its definition, without package root.
func rootOf(v value) api.Root {
	if v.b.Sign() == 0 {
		return api.Root{A: ratOf(v.a), B: ratOf(new(big.Rat)), C: ratOf(new(big.Rat))}
	}
	return api.Root{A: ratOf(v.a), B: ratOf(v.b), C: ratOf(v.c)}
}

// precision is far greater than what the numbers of the tests need.
const precision = 4000

// float returns the value with so many digits that its sign and its floor are certain.
func (v value) float() *big.Float {
	a := new(big.Float).SetPrec(precision).SetRat(v.a)
	if v.b.Sign() == 0 {
		return a
	}
	b := new(big.Float).SetPrec(precision).SetRat(v.b)
	c := new(big.Float).SetPrec(precision).SetRat(v.c)
	return a.Add(a, b.Mul(b, c.Sqrt(c)))
}

// plus returns the value x greater.
func (v value) plus(x *big.Rat) value { return value{add(v.a, x), v.b, v.c} }

// floor returns the greatest integer that is not greater than the value.
func (v value) floor() *big.Int {
	if v.b.Sign() == 0 {
		return floor(v.a)
	}
	x := v.float()
	n, _ := x.Int(nil)
	if x.Sign() < 0 {
		n.Sub(n, big.NewInt(1))
	}
	return n
}

// nearest returns the rounded value, and ceiling the least integer that is not less.
func (v value) nearest() *big.Int { return v.plus(half()).floor() }
func (v value) ceiling() *big.Int {
	n := value{neg(v.a), neg(v.b), v.c}.floor()
	return n.Neg(n)
}

// isSquare reports whether x is the square of a rational number.
func isSquare(x *big.Rat) bool {
	for _, n := range []*big.Int{x.Num(), x.Denom()} {
		if s := new(big.Int).Sqrt(n); s.Mul(s, s).Cmp(n) != 0 {
			return false
		}
	}
	return true
}

// randomRadicand returns a positive number that is not a square.
func randomRadicand(r *rand.Rand, digits int) *big.Rat {
	for {
		c := randomRat(r, digits)
		if c.Abs(c); !isSquare(c) {
			return c
		}
	}
}

// values returns values of all signs and sizes; many are very near to integers or to the middle between two.
func values() []value {
	var list []value
	for _, s := range []string{"0 0 0", "1 0 0", "-1 0 0", "1/2 0 0", "-1/2 0 0", "3/2 0 0", "-3/2 0 0", "1/3 0 0", "-1/3 0 0", "2/3 0 0", "-2/3 0 0", nines(20) + "/2 0 0", "-" + nines(20) + "/2 0 0", nines(29) + "/1" + zeros(30) + " 0 0", "0 1 2", "0 -1 2", "3 -1 2", "-3 1 2", "0 1 1/4000000000001", "0 -1 1/4000000000001", "1/2 -1 1/4000000000001", "-1/2 1 3/1" + zeros(40), "-1/2 -1 3/1" + zeros(40), "1 1 1/2", "0 1 8", "7/5 1/3 7/15", nines(40) + " -1 2", "0 -3 " + nines(40), "0 1/1000000 " + nines(30)} {
		list = append(list, parse(s))
	}
	p, q := big.NewInt(1), big.NewInt(1)
	for i := range 200 {
		// The quotients p / q are the convergents of sqrt(2), so the sums are very near to a multiple of 1/2.
		a, b := new(big.Rat).SetInt(p), new(big.Rat).SetInt(q)
		shift := big.NewRat(int64(i%9-4), 2)
		list = append(list, value{add(a, shift), neg(b), big.NewRat(2, 1)}, value{sub(shift, a), b, big.NewRat(2, 1)})
		p, q = new(big.Int).Add(p, new(big.Int).Lsh(q, 1)), new(big.Int).Add(p, q)
	}
	r := rand.New(rand.NewSource(2))
	for i := range 400 {
		list = append(list, value{randomRat(r, 1+i/10), randomRat(r, 1+i/20), randomRadicand(r, 1+i/15)})
	}
	return list
}
