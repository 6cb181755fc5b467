package radical_test

import (
	"math/big"
	"math/rand"
	"slices"
	"strings"

	"swarf/api"
)

// intOf makes an api.Int from its definition, without package integer.
func intOf(n *big.Int) api.Int {
	a := api.Int{Neg: n.Sign() < 0}
	rest, limb := new(big.Int).Abs(n), new(big.Int)
	for rest.Sign() != 0 {
		rest.DivMod(rest, big.NewInt(1000000000), limb)
		a.Limbs = append(a.Limbs, uint32(limb.Uint64()))
	}
	return a
}

// bigOf returns the integer that a stands for.
func bigOf(a api.Int) *big.Int {
	n := new(big.Int)
	for _, limb := range slices.Backward(a.Limbs) {
		n.Mul(n, big.NewInt(1000000000)).Add(n, big.NewInt(int64(limb)))
	}
	if a.Neg {
		n.Neg(n)
	}
	return n
}

// ratOf makes an api.Rat from its definition, without package rational.
func ratOf(x *big.Rat) api.Rat { return api.Rat{Num: intOf(x.Num()), Den: intOf(x.Denom())} }

// number returns the quotient with a text, which need not be in lowest terms.
func number(s string) *big.Rat {
	x, ok := new(big.Rat).SetString(s)
	if !ok {
		panic(s)
	}
	return x
}

// numbers returns the quotients of a text with spaces.
func numbers(s string) []*big.Rat {
	var list []*big.Rat
	for _, word := range strings.Fields(s) {
		list = append(list, number(word))
	}
	return list
}

func add(x, y *big.Rat) *big.Rat { return new(big.Rat).Add(x, y) }
func sub(x, y *big.Rat) *big.Rat { return new(big.Rat).Sub(x, y) }
func mul(x, y *big.Rat) *big.Rat { return new(big.Rat).Mul(x, y) }
func neg(x *big.Rat) *big.Rat    { return new(big.Rat).Neg(x) }
func zero() *big.Rat             { return new(big.Rat) }

// sameInt reports whether two integers have the same form.
func sameInt(a, b api.Int) bool { return a.Neg == b.Neg && slices.Equal(a.Limbs, b.Limbs) }

// same reports whether two numbers have the same form.
func same(a, b api.Rat) bool { return sameInt(a.Num, b.Num) && sameInt(a.Den, b.Den) }

// quad is a + b sqrt(m) + c sqrt(n) + d sqrt(m) sqrt(n), as a reference.
type quad struct{ a, b, c, d, m, n *big.Rat }

// quadFrom returns the sum whose text consists of a, b, c, d, m and n.
func quadFrom(s string) quad {
	f := numbers(s)
	return quad{f[0], f[1], f[2], f[3], f[4], f[5]}
}

func quadOf(q quad) api.Quad {
	return api.Quad{A: ratOf(q.a), B: ratOf(q.b), C: ratOf(q.c), D: ratOf(q.d), M: ratOf(q.m), N: ratOf(q.n)}
}

// sign returns the sign of the value, or 0 if m or n is negative.
func (q quad) sign() int {
	if q.m.Sign() < 0 || q.n.Sign() < 0 {
		return 0
	}
	return signOfRoots(2, signed{q.a, one()}, signed{q.b, q.m}, signed{q.c, q.n}, signed{q.d, mul(q.m, q.n)})
}

func one() *big.Rat { return big.NewRat(1, 1) }

// signed is a root with a factor.
type signed struct{ factor, radicand *big.Rat }

// signOfRoots returns the sign of a sum of roots that are sums and products of the given number of square roots and rational numbers.
func signOfRoots(count int, terms ...signed) int {
	// With this common denominator, the sum is an algebraic integer: the roots are those of integers.
	den := big.NewInt(1)
	for _, x := range terms {
		den.Mul(den, x.factor.Denom()).Mul(den, x.radicand.Denom())
	}
	whole := new(big.Rat).SetInt(mulInt(den, den))
	size := 2
	for _, x := range terms {
		size += mul(mul(x.factor, x.factor), mul(x.radicand, whole)).Num().BitLen()/2 + 1
	}
	// The product of those conjugates that are different is an integer that is not 0, unless the value is 0; and none of them is greater than 2^size. So the value itself cannot be nearer to 0 than this.
	bits := (1<<count - 1) * size
	if sum := float(size+64, den, terms); sum.Sign() != 0 && sum.MantExp(nil) > -32 {
		return sum.Sign()
	}
	if sum := float(size+64+bits, den, terms); sum.MantExp(nil) >= -bits {
		return sum.Sign()
	}
	return 0
}

// float returns nearly the sum of roots, times den.
func float(precision int, den *big.Int, terms []signed) *big.Float {
	sum := new(big.Float).SetPrec(uint(precision))
	for _, x := range terms {
		root := new(big.Float).SetPrec(uint(precision)).SetRat(x.radicand)
		product := new(big.Float).SetPrec(uint(precision)).SetRat(x.factor)
		sum.Add(sum, product.Mul(product, root.Sqrt(root)))
	}
	return sum.Mul(sum, new(big.Float).SetInt(den))
}

func mulInt(x, y *big.Int) *big.Int { return new(big.Int).Mul(x, y) }

// value is a + b sqrt(c), as a reference: c is not a square unless b is 0.
type value struct{ a, b, c *big.Rat }

// parse returns the value whose text consists of a, b and c.
func parse(s string) value {
	f := numbers(s)
	return value{f[0], f[1], f[2]}
}

// rootOf makes an api.Root from its definition, without package root.
func rootOf(v value) api.Root {
	if v.b.Sign() == 0 {
		return api.Root{A: ratOf(v.a), B: ratOf(zero()), C: ratOf(zero())}
	}
	return api.Root{A: ratOf(v.a), B: ratOf(v.b), C: ratOf(v.c)}
}

// rootFrom returns the root whose text consists of a, b and c.
func rootFrom(s string) api.Root { return rootOf(parse(s)) }

// rootsOf returns the roots with the values of a list.
func rootsOf(l []value) []api.Root {
	var list []api.Root
	for _, v := range l {
		list = append(list, rootOf(v))
	}
	return list
}

// minus returns v - w.
func (v value) minus(w value) quad { return quad{sub(v.a, w.a), v.b, neg(w.b), zero(), v.c, w.c} }

// cmp returns the sign of v - w.
func (v value) cmp(w value) int { return v.minus(w).sign() }

// plain returns x as a value.
func plain(x *big.Rat) value { return value{x, zero(), zero()} }

// float returns nearly the value.
func (v value) float() *big.Float {
	c := new(big.Float).SetPrec(1000).SetRat(v.c)
	b := new(big.Float).SetPrec(1000).SetRat(v.b)
	return b.Mul(b, c.Sqrt(c)).Add(b, new(big.Float).SetPrec(1000).SetRat(v.a))
}

// near returns a rational number that differs from the value by about 10^-digits.
func (v value) near(digits int) *big.Rat {
	x, _ := v.float().Rat(nil)
	x.Mul(x, new(big.Rat).SetInt(pow10(digits)))
	return new(big.Rat).SetFrac(new(big.Int).Div(x.Num(), x.Denom()), pow10(digits))
}

// isSquare reports whether x is the square of a rational number.
func isSquare(x *big.Rat) bool {
	for _, n := range []*big.Int{x.Num(), x.Denom()} {
		if s := new(big.Int).Sqrt(n); s.Mul(s, s).Cmp(n) != 0 {
			return false
		}
	}
	return true
}

// pow10 returns 10^n.
func pow10(n int) *big.Int {
	return new(big.Int).Exp(big.NewInt(10), big.NewInt(int64(n)), nil)
}

// fraction returns 10^-n.
func fraction(n int) *big.Rat { return new(big.Rat).SetFrac(big.NewInt(1), pow10(n)) }

// nines returns the text of 10^n - 1, and zeros that of n zeros.
func nines(n int) string { return strings.Repeat("9", n) }
func zeros(n int) string { return strings.Repeat("0", n) }

// randomRat returns a number whose parts have at most the given number of digits; some are integers, and some 0.
func randomRat(r *rand.Rand, digits int) *big.Rat {
	num := new(big.Int).Rand(r, pow10(1+r.Intn(digits)))
	den := new(big.Int).Rand(r, pow10(1+r.Intn(digits)))
	den.Add(den, big.NewInt(1))
	switch r.Intn(6) {
	case 0:
		den.SetInt64(1)
	case 1:
		num.SetInt64(0)
	}
	if r.Intn(2) == 0 {
		num.Neg(num)
	}
	return new(big.Rat).SetFrac(num, den)
}

// randomPositive returns a number that is greater than 0.
func randomPositive(r *rand.Rand, digits int) *big.Rat {
	for {
		if x := randomRat(r, digits); x.Sign() != 0 {
			return x.Abs(x)
		}
	}
}

// randomRadicand returns a positive number that is not a square.
func randomRadicand(r *rand.Rand, digits int) *big.Rat {
	for {
		if c := randomPositive(r, digits); !isSquare(c) {
			return c
		}
	}
}

// randomValue returns a value; some are rational.
func randomValue(r *rand.Rand, digits int) value {
	return value{randomRat(r, digits), randomRat(r, digits), randomRadicand(r, digits)}
}

// another returns the same value with another radicand, unless it is rational.
func (v value) another(r *rand.Rand) value {
	k := randomPositive(r, 3)
	return value{v.a, new(big.Rat).Quo(v.b, k), mul(v.c, mul(k, k))}
}

// values returns values of all signs and sizes. Each is followed by the same one with another radicand, and by values that are very near to it.
func values() []value {
	var list []value
	for _, s := range []string{"0 0 0", "1 0 0", "-1 0 0", "3/2 0 0", "0 1 2", "0 1 3", "0 -1 2", "1 1 2", "1 -1 2", "-1 1 2", "0 1 5", "1/2 1/2 5", "0 2 2", "0 1 8", "0 1/2 8", "0 1 1/2", "0 1/3 7/15", "0 -1 1/" + nines(30), "0 1 " + nines(40), nines(30) + " -1 2", "0 35184372088832 2", "35184372088832 0 0"} {
		list = append(list, parse(s))
	}
	r := rand.New(rand.NewSource(1))
	for i := range 40 {
		v := randomValue(r, 1+i)
		list = append(list, v, v.another(r))
		list = append(list, value{add(v.a, fraction(1+i)), v.b, v.c}, value{sub(v.a, fraction(3*i)), v.b, v.c}.another(r))
	}
	return list
}
