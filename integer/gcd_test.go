package integer_test

import (
	"math/big"
	"math/rand"
	"testing"

	"swarf/integer"
)

// checkGCD compares the greatest common divisor with the right one.
func checkGCD(t *testing.T, x, y *big.Int) {
	t.Helper()
	want := new(big.Int).GCD(nil, nil, new(big.Int).Abs(x), new(big.Int).Abs(y))
	check(t, integer.GCD(fromBig(x), fromBig(y)), want, "GCD", x, y)
}

func TestGCDExamples(t *testing.T) {
	for _, x := range [][3]string{
		{"-12", "18", "6"},
		{"12", "-18", "6"},
		{"0", "0", "0"},
		{"0", "-7", "7"},
		{"-7", "0", "7"},
		{"1", "1000000000000000000000000000", "1"},
		{"0", "-1000000000000000000000000000", "1000000000000000000000000000"},
		{"-1000000000000000000000000000", "1000000000000000000000000000", "1000000000000000000000000000"},
	} {
		if got := integer.Format(integer.GCD(parse(t, x[0]), parse(t, x[1]))); got != x[2] {
			t.Errorf("P1.1: GCD of %s and %s: got %s", x[0], x[1], got)
		}
	}
}

func TestGCD(t *testing.T) {
	forPairs(func(x, y *big.Int) { checkGCD(t, x, y) })
}

func TestGCDOfMultiples(t *testing.T) {
	r := rand.New(rand.NewSource(5))
	for range 1000 {
		g, x, y := randomBig(r, 10), randomBig(r, 15), randomBig(r, 15)
		checkGCD(t, new(big.Int).Mul(g, x), new(big.Int).Mul(g, y))
		checkGCD(t, new(big.Int).Mul(g, x), g)
	}
}

// Euclid's algorithm takes the most steps for successive Fibonacci numbers.
func TestGCDOfFibonacciNumbers(t *testing.T) {
	x, y := big.NewInt(0), big.NewInt(1)
	for range 3000 {
		x.Add(x, y)
		x, y = y, x
	}
	for range 500 {
		checkGCD(t, x, y)
		x.Add(x, y)
		x, y = y, x
	}
}

// Each quotient is given here, so that single quotients of any size stand between small ones.
func TestGCDOfContinuedFractions(t *testing.T) {
	r := rand.New(rand.NewSource(6))
	for range 1000 {
		x, y := big.NewInt(0), randomBig(r, 2)
		for range 60 {
			q := big.NewInt(1 + r.Int63n(3))
			if r.Intn(4) == 0 {
				q = new(big.Int).Abs(randomBig(r, 3))
			}
			x.Add(x, q.Mul(q, y))
			x, y = y, x
		}
		checkGCD(t, x, y)
	}
}
