package integer_test

import (
	"math/big"
	"math/rand"
	"slices"
	"strings"
	"testing"

	"swarf/api"
	"swarf/integer"
)

// parse returns the integer with a text.
func parse(t *testing.T, s string) api.Int {
	t.Helper()
	a, e := integer.Parse(s)
	if e != api.OK {
		t.Fatalf("Parse of %.40q: %v", s, e)
	}
	return a
}

// fromBig makes an api.Int from its definition, without package integer.
func fromBig(n *big.Int) api.Int {
	a := api.Int{Neg: n.Sign() < 0}
	rest, limb := new(big.Int).Abs(n), new(big.Int)
	for rest.Sign() != 0 {
		rest.DivMod(rest, big.NewInt(1000000000), limb)
		a.Limbs = append(a.Limbs, uint32(limb.Uint64()))
	}
	return a
}

// same reports whether two integers have the same form.
func same(a, b api.Int) bool { return a.Neg == b.Neg && slices.Equal(a.Limbs, b.Limbs) }

// clone returns a copy that shares no memory with a.
func clone(a api.Int) api.Int { return api.Int{Neg: a.Neg, Limbs: slices.Clone(a.Limbs)} }

// pow10 returns 10^n.
func pow10(n int) *big.Int {
	return new(big.Int).Exp(big.NewInt(10), big.NewInt(int64(n)), nil)
}

// edges returns the numbers at which the number of limbs, the ways of the functions or the fit into int64 change, with both signs.
func edges() []*big.Int {
	list := []*big.Int{new(big.Int)}
	add := func(n *big.Int) {
		for d := int64(-1); d <= 1; d++ {
			m := new(big.Int).Add(n, big.NewInt(d))
			list = append(list, m, new(big.Int).Neg(m))
		}
	}
	for _, n := range []int64{2, 7, 12, 18, 99, 31622, 12345678901} {
		add(big.NewInt(n))
	}
	for _, n := range []int{9, 18, 27, 36, 45, 54, 108} {
		add(pow10(n))
		add(new(big.Int).Mul(pow10(n), big.NewInt(999999999)))
	}
	for _, n := range []uint{31, 32, 63, 64, 128} {
		add(new(big.Int).Lsh(big.NewInt(1), n))
	}
	return list
}

// randomBig returns a number with a sign and at most the given number of limbs; some limbs are 0 or as great as possible.
func randomBig(r *rand.Rand, limbs int) *big.Int {
	n := new(big.Int)
	for range 1 + r.Intn(limbs) {
		limb := r.Int63n(1000000000)
		switch r.Intn(6) {
		case 0:
			limb = 0
		case 1:
			limb = 999999999
		}
		n.Mul(n, big.NewInt(1000000000)).Add(n, big.NewInt(limb))
	}
	if r.Intn(2) == 0 {
		n.Neg(n)
	}
	return n
}

// samples returns the edges and random numbers, always the same ones.
func samples() []*big.Int {
	r := rand.New(rand.NewSource(1))
	list := edges()
	for i := range 60 {
		list = append(list, randomBig(r, 1+i/3))
	}
	return list
}

// forPairs calls f for all pairs of samples and for further pairs of long numbers.
func forPairs(f func(x, y *big.Int)) {
	list := samples()
	for _, x := range list {
		for _, y := range list {
			f(x, y)
		}
	}
	r := rand.New(rand.NewSource(2))
	for range 2000 {
		f(randomBig(r, 40), randomBig(r, 40))
	}
}

// nines returns the text of 10^n - 1.
func nines(n int) string { return strings.Repeat("9", n) }

// check compares a result with the right number.
func check(t *testing.T, got api.Int, want *big.Int, call string, args ...*big.Int) {
	t.Helper()
	if !same(got, fromBig(want)) {
		t.Fatalf("P1.1: %s of %v: got %v, want %v", call, args, got, want)
	}
}
