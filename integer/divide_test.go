package integer_test

import (
	"math/big"
	"math/rand"
	"testing"

	"swarf/api"
	"swarf/integer"
)

// checkDivMod compares the quotient and the remainder with the right ones.
func checkDivMod(t *testing.T, x, y *big.Int) {
	t.Helper()
	q, r, e := integer.DivMod(fromBig(x), fromBig(y))
	if y.Sign() == 0 {
		if e != api.ErrZero || !same(q, api.Int{}) || !same(r, api.Int{}) {
			t.Fatalf("P1.1: DivMod of %v and 0: got %v, %v, %v", x, q, r, e)
		}
		return
	}
	quotient, rest := new(big.Int).QuoRem(x, y, new(big.Int))
	if rest.Sign()*y.Sign() < 0 {
		quotient.Sub(quotient, big.NewInt(1))
		rest.Add(rest, y)
	}
	if e != api.OK {
		t.Fatalf("P1.1: DivMod of %v and %v: %v", x, y, e)
	}
	check(t, q, quotient, "the quotient", x, y)
	check(t, r, rest, "the remainder", x, y)
}

func TestDivModExamples(t *testing.T) {
	for _, x := range [][4]string{
		{"7", "2", "3", "1"},
		{"-7", "2", "-4", "1"},
		{"7", "-2", "-4", "-1"},
		{"-7", "-2", "3", "-1"},
		{"-8", "2", "-4", "0"},
		{"8", "-2", "-4", "0"},
		{"0", "-5", "0", "0"},
		{"-1", "1000000000000000000000", "-1", "999999999999999999999"},
		{"1", "-1000000000000000000000", "-1", "-999999999999999999999"},
		{"1000000000", "1000000000", "1", "0"},
		{"-999999999", "1000000000", "-1", "1"},
		{"-9223372036854775808", "-1", "9223372036854775808", "0"},
	} {
		q, r, e := integer.DivMod(parse(t, x[0]), parse(t, x[1]))
		if e != api.OK || integer.Format(q) != x[2] || integer.Format(r) != x[3] {
			t.Errorf("P1.1: DivMod of %s and %s: got %s, %s, %v", x[0], x[1], integer.Format(q), integer.Format(r), e)
		}
	}
}

func TestDivMod(t *testing.T) {
	forPairs(func(x, y *big.Int) { checkDivMod(t, x, y) })
}

// With these numbers, the quotient of the last limbs is greater than the limb of the quotient.
func TestDivModNearMultiples(t *testing.T) {
	r := rand.New(rand.NewSource(3))
	for range 2000 {
		y, q := randomBig(r, 12), randomBig(r, 6)
		product := new(big.Int).Mul(y, q)
		for d := int64(-1); d <= 1; d++ {
			checkDivMod(t, new(big.Int).Add(product, big.NewInt(d)), y)
			checkDivMod(t, new(big.Int).Add(new(big.Int).Add(product, y), big.NewInt(d)), y)
		}
	}
}

func TestDivModOfLongNumbers(t *testing.T) {
	r := rand.New(rand.NewSource(4))
	for _, n := range []int{200, 1000} {
		x, y := randomBig(r, n), randomBig(r, n/2)
		checkDivMod(t, new(big.Int).Mul(new(big.Int).Mul(x, y), x), y)
		checkDivMod(t, new(big.Int).Sub(pow10(18*n), big.NewInt(1)), new(big.Int).Add(pow10(9*n), big.NewInt(1)))
	}
}
