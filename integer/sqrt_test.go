package integer_test

import (
	"math/big"
	"math/rand"
	"testing"

	"swarf/api"
	"swarf/integer"
)

// checkSqrt compares the square root with the right one.
func checkSqrt(t *testing.T, x *big.Int) {
	t.Helper()
	got, e := integer.Sqrt(fromBig(x))
	if x.Sign() < 0 {
		if e != api.ErrNegative || !same(got, api.Int{}) {
			t.Fatalf("P1.1: Sqrt of %v: got %v, %v", x, got, e)
		}
		return
	}
	if e != api.OK {
		t.Fatalf("P1.1: Sqrt of %v: %v", x, e)
	}
	check(t, got, new(big.Int).Sqrt(x), "Sqrt", x)
}

func TestSqrtExamples(t *testing.T) {
	for _, x := range [][2]string{{"99", "9"}, {"100", "10"}, {"0", "0"}, {"1", "1"}, {"2", "1"}, {"3", "1"}, {"4", "2"}, {nines(36), nines(18)}, {nines(90), nines(45)}} {
		if r, e := integer.Sqrt(parse(t, x[0])); e != api.OK || integer.Format(r) != x[1] {
			t.Errorf("P1.1: Sqrt of %s: got %s, %v", x[0], integer.Format(r), e)
		}
	}
}

func TestSqrt(t *testing.T) {
	for n := range int64(3000) {
		checkSqrt(t, big.NewInt(n))
	}
	for _, x := range samples() {
		checkSqrt(t, x)
	}
	r := rand.New(rand.NewSource(7))
	for range 2000 {
		checkSqrt(t, randomBig(r, 30))
	}
}

func TestSqrtNearSquares(t *testing.T) {
	r := rand.New(rand.NewSource(8))
	list := samples()
	for range 1000 {
		list = append(list, randomBig(r, 20))
	}
	for _, x := range list {
		square := new(big.Int).Mul(x, x)
		for d := int64(-1); d <= 1; d++ {
			checkSqrt(t, new(big.Int).Add(square, big.NewInt(d)))
		}
	}
}

func TestSqrtOfLongNumbers(t *testing.T) {
	for _, n := range []int{4500, 4509, 20000} {
		x := pow10(n)
		checkSqrt(t, x)
		checkSqrt(t, new(big.Int).Sub(x, big.NewInt(1)))
	}
}
