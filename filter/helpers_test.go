package filter_test

import (
	"math/big"
	"math/rand"
	"strings"

	"swarf/api"
	"swarf/filter"
)

// limit is the greatest absolute value of an end of a proper interval.
const limit = 1 << 61

// intOf makes an api.Int from its definition, without package integer.
func intOf(n *big.Int) api.Int {
	a := api.Int{Neg: n.Sign() < 0}
	rest, limb := new(big.Int).Abs(n), new(big.Int)
	for rest.Sign() != 0 {
		rest.DivMod(rest, big.NewInt(1000000000), limb)
		a.Limbs = append(a.Limbs, uint32(limb.Uint64()))
	}
	return a
}

// ratOf makes an api.Rat from its definition, without package rational.
func ratOf(x *big.Rat) api.Rat { return api.Rat{Num: intOf(x.Num()), Den: intOf(x.Denom())} }

// number returns the quotient with a text, which need not be in lowest terms.
func number(s string) *big.Rat {
	x, ok := new(big.Rat).SetString(s)
	if !ok {
		panic(s)
	}
	return x
}

// numbers returns the quotients of a text with spaces.
func numbers(s string) []*big.Rat {
	var list []*big.Rat
	for _, word := range strings.Fields(s) {
		list = append(list, number(word))
	}
	return list
}

// value is a + b sqrt(c), as a reference; it need not be in reduced form.
type value struct{ a, b, c *big.Rat }

// parse returns the value whose text consists of a, b and c.
func parse(s string) value {
	f := numbers(s)
	return value{f[0], f[1], f[2]}
}

// rootOf makes an api.Root from its definition, without package root.
func rootOf(v value) api.Root { return api.Root{A: ratOf(v.a), B: ratOf(v.b), C: ratOf(v.c)} }

func add(x, y *big.Rat) *big.Rat { return new(big.Rat).Add(x, y) }
func sub(x, y *big.Rat) *big.Rat { return new(big.Rat).Sub(x, y) }
func mul(x, y *big.Rat) *big.Rat { return new(big.Rat).Mul(x, y) }

// sign returns the sign of the value; c is not negative.
func (v value) sign() int {
	a, b := v.a.Sign(), v.b.Sign()*v.c.Sign()
	if a*b >= 0 {
		return max(-1, min(1, a+b))
	}
	// The part with the greater square decides.
	return a * mul(v.a, v.a).Cmp(mul(mul(v.b, v.b), v.c))
}

// cmp returns the sign of the value minus x.
func (v value) cmp(x *big.Rat) int { return value{sub(v.a, x), v.b, v.c}.sign() }

// end returns the number for which an end of an interval stands.
func end(n int64) *big.Rat { return big.NewRat(n, filter.Scale) }

// pow10 returns 10^n.
func pow10(n int) *big.Int {
	return new(big.Int).Exp(big.NewInt(10), big.NewInt(int64(n)), nil)
}

// nines returns the text of 10^n - 1.
func nines(n int) string { return strings.Repeat("9", n) }

// randomRat returns a number whose parts have at most the given number of digits; some are integers, and some 0.
func randomRat(r *rand.Rand, digits int) *big.Rat {
	num := new(big.Int).Rand(r, pow10(1+r.Intn(digits)))
	den := new(big.Int).Rand(r, pow10(1+r.Intn(digits)))
	den.Add(den, big.NewInt(1))
	switch r.Intn(6) {
	case 0:
		den.SetInt64(1)
	case 1:
		num.SetInt64(0)
	}
	if r.Intn(2) == 0 {
		num.Neg(num)
	}
	return new(big.Rat).SetFrac(num, den)
}

// rationals returns numbers of all sizes, among them multiples of 1 / Scale and their neighbours, and numbers near to the limit of the intervals.
func rationals() []*big.Rat {
	list := numbers("0 1 -1 1/3 -1/3 1/65536 -1/65536 1/65537 -1/65537 2/65536 1/32767 3/131072 -3/131072 1000000000 -1000000000 1/1000000000 -1/1000000000 999999999999999999/1000000000000000000")
	top := big.NewRat(limit, filter.Scale)
	for _, part := range numbers("0 1/65536 -1/65536 1/65537 -1/65537 1 -1 1/" + nines(40) + " -1/" + nines(40)) {
		list = append(list, add(top, part), sub(part, top))
	}
	for _, s := range []string{"9223372036854775807", "9223372036854775808", "18446744073709551615", "18446744073709551616", nines(17), nines(18), nines(19), nines(60)} {
		n := number(s)
		list = append(list, n, new(big.Rat).Neg(n), new(big.Rat).Inv(n), new(big.Rat).Inv(new(big.Rat).Neg(n)))
		list = append(list, mul(n, number("1/"+nines(20))), mul(n, number("-"+nines(20))), mul(n, number("7/"+nines(36))))
	}
	r := rand.New(rand.NewSource(1))
	for i := range 400 {
		list = append(list, randomRat(r, 1+i/10))
	}
	return list
}

// ends returns ends of proper intervals: small ones, squares in units of 1 / Scale and their neighbours, and great ones.
func ends() []int64 {
	list := []int64{0, 1, 2, 3, 255, 256, 257, 65535, 65536, 65537, 131072, 1 << 30, 1 << 31, 1<<31 + 1, 1 << 38, 1<<38 + 1, 1 << 39, limit - 1, limit}
	for _, root := range []int64{3, 100, 46340, 3037000, 1<<30 - 1, 1<<30 + 5, 1518500249} {
		list = append(list, root*root-1, root*root, root*root+1)
	}
	r := rand.New(rand.NewSource(2))
	for i := range 30 {
		list = append(list, r.Int63n(1<<(2*i+2)))
	}
	for _, n := range list {
		if n != 0 {
			list = append(list, -n)
		}
	}
	return list
}

// intervals returns proper intervals of all signs and sizes.
func intervals() []filter.Interval {
	var list []filter.Interval
	all := ends()
	r := rand.New(rand.NewSource(3))
	for _, n := range all {
		list = append(list, filter.Interval{Low: n, High: n})
		for _, m := range []int64{n + 1, n + 65536, -n, all[r.Intn(len(all))]} {
			if low, high := min(n, m), max(n, m); high <= limit {
				list = append(list, filter.Interval{Low: low, High: high})
			}
		}
	}
	return list
}

// values returns values of all signs and sizes, some of which are not reduced, and some near to 0.
func values() []value {
	var list []value
	for _, s := range []string{"0 0 0", "1 -1 2", "-1 1 2", "1 1 2", "0 1 2", "3 -2 9/4", "1 0 8", "1 0 -8", "0 1 0", "7 3 0", "0 1 1/" + nines(40), "1/2 -1/3 7/15", "0 " + nines(30) + " 2", "0 1 " + nines(30), nines(30) + " 1 2", "0 1 140737488355328", "0 1/" + nines(30) + " 140737488355328", "0 -1/2 35184372088832"} {
		list = append(list, parse(s))
	}
	r := rand.New(rand.NewSource(4))
	for i := range 3000 {
		v := value{randomRat(r, 1+i/100), randomRat(r, 1+i/150), new(big.Rat).Abs(randomRat(r, 1+i/100))}
		if i%2 == 0 {
			v.a = nearTo(value{new(big.Rat), new(big.Rat).Neg(v.b), v.c}, r)
		}
		list = append(list, v)
	}
	return list
}

// nearTo returns a rational number that is near to a value.
func nearTo(v value, r *rand.Rand) *big.Rat {
	c, _ := v.c.Float64()
	b, _ := v.b.Float64()
	x := new(big.Float).SetFloat64(c)
	x.Sqrt(x).Mul(x, big.NewFloat(b))
	near, _ := x.Rat(nil)
	return add(near, big.NewRat(r.Int63n(7)-3, 1<<r.Intn(40)))
}
