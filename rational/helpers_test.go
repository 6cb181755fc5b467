package rational_test

import (
	"math/big"
	"math/rand"
	"slices"
	"strings"
	"testing"

	"swarf/api"
	"swarf/rational"
)

// intOf makes an api.Int from its definition, without package integer.
func intOf(n *big.Int) api.Int {
	a := api.Int{Neg: n.Sign() < 0}
	rest, limb := new(big.Int).Abs(n), new(big.Int)
	for rest.Sign() != 0 {
		rest.DivMod(rest, big.NewInt(1000000000), limb)
		a.Limbs = append(a.Limbs, uint32(limb.Uint64()))
	}
	return a
}

// ratOf makes an api.Rat from its definition, without package rational.
func ratOf(x *big.Rat) api.Rat { return api.Rat{Num: intOf(x.Num()), Den: intOf(x.Denom())} }

// number returns the quotient with a text, which need not be in lowest terms.
func number(s string) *big.Rat {
	x, ok := new(big.Rat).SetString(s)
	if !ok {
		panic(s)
	}
	return x
}

// sameInt reports whether two integers have the same form.
func sameInt(a, b api.Int) bool { return a.Neg == b.Neg && slices.Equal(a.Limbs, b.Limbs) }

// same reports whether two numbers have the same form.
func same(a, b api.Rat) bool { return sameInt(a.Num, b.Num) && sameInt(a.Den, b.Den) }

// pow10 returns 10^n.
func pow10(n int) *big.Int {
	return new(big.Int).Exp(big.NewInt(10), big.NewInt(int64(n)), nil)
}

// nines returns the text of 10^n - 1.
func nines(n int) string { return strings.Repeat("9", n) }

// edges returns numbers at which the functions change their ways, with both signs.
func edges() []*big.Rat {
	var list []*big.Rat
	for _, s := range []string{"0", "1", "2", "4", "1/2", "1/3", "2/3", "3/2", "5/2", "7/2", "9/4", "1/6", "5/6", "7/15", "999999999", "1000000000", "1/999999999", "1/1000000000", "999999999/1000000000", "9223372036854775808", "9223372036854775807/9223372036854775808", "1/" + nines(40), nines(40) + "/" + nines(41), "1" + nines(60) + "/7"} {
		x := number(s)
		list = append(list, x, new(big.Rat).Neg(x))
	}
	return list
}

// randomInt returns a positive number of at most the given number of digits.
func randomInt(r *rand.Rand, digits int) *big.Int {
	n := new(big.Int).Rand(r, pow10(1+r.Intn(digits)))
	return n.Add(n, big.NewInt(1))
}

// randomRat returns a number whose parts have at most the given number of digits, and often small divisors.
func randomRat(r *rand.Rand, digits int) *big.Rat {
	num, den := randomInt(r, digits), randomInt(r, digits)
	for _, p := range []int64{2, 3, 5, 1000, 720720} {
		if r.Intn(3) == 0 {
			den.Mul(den, big.NewInt(p))
		}
	}
	if r.Intn(4) == 0 {
		den.SetInt64(1)
	}
	if r.Intn(2) == 0 {
		num.Neg(num)
	}
	return new(big.Rat).SetFrac(num, den)
}

// samples returns the edges and random numbers, always the same ones.
func samples() []*big.Rat {
	r := rand.New(rand.NewSource(1))
	list := edges()
	for i := range 50 {
		list = append(list, randomRat(r, 1+2*i))
	}
	return list
}

// forPairs calls f for all pairs of samples and for further pairs.
func forPairs(f func(x, y *big.Rat)) {
	list := samples()
	for _, x := range list {
		for _, y := range list {
			f(x, y)
		}
	}
	r := rand.New(rand.NewSource(2))
	for range 2000 {
		f(randomRat(r, 4), randomRat(r, 4))
		f(randomRat(r, 60), randomRat(r, 60))
	}
}

// check compares a result with the right number.
func check(t *testing.T, got api.Rat, want *big.Rat, call string, args ...*big.Rat) {
	t.Helper()
	if !same(got, ratOf(want)) || !rational.Valid(got) {
		t.Fatalf("P2.1: %s of %v: got %v, want %v", call, args, got, want)
	}
}
