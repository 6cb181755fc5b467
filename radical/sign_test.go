package radical_test

import (
	"math/big"
	"math/rand"
	"testing"

	"swarf/radical"
)

// checkSign compares a sign with the right one.
func checkSign(t *testing.T, q quad) {
	t.Helper()
	if got, want := radical.Sign(quadOf(q)), q.sign(); got != want {
		t.Fatalf("P5.1: Sign of %v: got %d, want %d", q, got, want)
	}
}

func TestSignExamples(t *testing.T) {
	for s, want := range map[string]int{
		"-3 1 1 0 2 3":           1,
		"5 0 0 -2 2 3":           1,
		"0 0 0 0 0 0":            0,
		"0 0 0 0 2 3":            0,
		"-1/3 0 0 0 2 3":         -1,
		"1 7 7 7 0 0":            1,
		"-1 7 7 7 0 0":           -1,
		"0 7 0 7 0 5":            0,
		"0 0 7 7 5 0":            0,
		"0 7 1 7 0 5":            1,
		"0 1 -7 7 5 0":           1,
		"0 1 -2 0 8 2":           0,
		"0 1 -2 0 9 2":           1,
		"0 1 -2 0 7 2":           -1,
		"-4 0 0 1 2 8":           0,
		"-4 0 0 1 2 9":           1,
		"-6 0 0 1 4 9":           0,
		"-5 1 1 0 4 9":           0,
		"0 1 -1 0 2/3 2/3":       0,
		"0 1 -1 0 1/2 2":         -1,
		"-1 0 0 1 1/2 2":         0,
		"0 2 -1 0 1/2 2":         0,
		"0 5 3 1 2 2":            1,
		"-2 5 -5 1 2 2":          0,
		"1 -1 -1 1 2 3":          1,
		"-1 1 1 -1 2 3":          -1,
		"1 1 -1 -1 2 3":          -1,
		"6 3 -2 -1 2 9":          0,
		"6 3 -2 -1 2 10":         -1,
		"-7 2 0 1 6 2":           1,
		"-47 12 10 0 3 7":        1,
		"-12 3 0 2 6 3/2":        1,
		"10 -2 -3 -1 3 5":        -1,
		"2 1 1 0 -1 4":           0,
		"2 1 1 0 4 -1":           0,
		"2 0 0 0 -1/7 0":         0,
		"2 0 0 0 0 -1/7":         0,
		"2 0 0 1 -2 -2":          0,
		"-1 0 0 0 -" + "1 -1":    0,
		"1 0 0 0 -1/" + "9 1":    0,
		"99 -70 0 0 2 3":         1,
		"-99 0 70 0 3 2":         -1,
		"665857 0 -470832 0 3 2": 1,
	} {
		if got := radical.Sign(quadOf(quadFrom(s))); got != want {
			t.Errorf("P5.1: Sign of %s: got %d, want %d", s, got, want)
		}
	}
}

// The radicands are equal, squares, 0, or multiples of one another by squares, so that many sums are 0 or have a simpler form.
func TestSignsOfSmallNumbers(t *testing.T) {
	radicands := numbers("0 1 2 3 4 8 1/2 9/4 -1")
	for i := range 625 {
		a, b, c, d := int64(i%5-2), int64(i/5%5-2), int64(i/25%5-2), int64(i/125-2)
		for _, m := range radicands {
			for _, n := range radicands {
				checkSign(t, quad{big.NewRat(a, 1), big.NewRat(b, 1), big.NewRat(c, 1), big.NewRat(d, 1), m, n})
			}
		}
	}
}

// around checks a sum and its neighbours, whose differences from it become smaller and smaller.
func around(t *testing.T, q quad) {
	t.Helper()
	checkSign(t, q)
	for _, digits := range []int{0, 3, 6, 20, 50} {
		for _, change := range []*big.Rat{fraction(digits), neg(fraction(digits))} {
			checkSign(t, quad{add(q.a, change), q.b, q.c, q.d, q.m, q.n})
			checkSign(t, quad{q.a, add(q.b, change), q.c, q.d, q.m, q.n})
			checkSign(t, quad{q.a, q.b, q.c, add(q.d, change), q.m, q.n})
		}
	}
}

// checkZero checks a sum that is 0, with its neighbours.
func checkZero(t *testing.T, q quad) {
	t.Helper()
	if q.sign() != 0 {
		t.Fatalf("the reference for %v is wrong", q)
	}
	around(t, q)
}

// A sum is 0 without being 0 in each of its parts only if m, n or m n is a square.
func TestSignsNearZero(t *testing.T) {
	r := rand.New(rand.NewSource(2))
	for i := range 150 {
		digits := 1 + i/6
		x, y, k := randomRat(r, digits), randomRat(r, digits), randomPositive(r, digits)
		m, square := randomPositive(r, digits), mul(k, k)
		multiple := mul(square, m) // whose square root is k sqrt(m)
		checkZero(t, quad{neg(mul(mul(x, k), m)), neg(mul(y, k)), y, x, m, multiple})
		checkZero(t, quad{neg(mul(x, k)), x, neg(mul(y, k)), y, square, m})
		checkZero(t, quad{neg(mul(x, k)), neg(mul(y, k)), x, y, m, square})
		checkZero(t, quad{zero(), x, y, x, zero(), zero()})
	}
}

func TestSignsOfLongNumbers(t *testing.T) {
	r := rand.New(rand.NewSource(3))
	for i := range 3000 {
		digits := 1 + i/60
		checkSign(t, quad{randomRat(r, digits), randomRat(r, digits), randomRat(r, digits), randomRat(r, digits), randomPositive(r, digits), randomPositive(r, digits)})
	}
}

// The rational part is chosen so that only the last of many digits decide.
func TestSignsOfApproximations(t *testing.T) {
	r := rand.New(rand.NewSource(4))
	for i := range 400 {
		digits := 1 + i/10
		q := quad{zero(), randomRat(r, digits), randomRat(r, digits), randomRat(r, digits), randomPositive(r, digits), randomPositive(r, digits)}
		sum := new(big.Float).SetPrec(1000)
		for _, v := range []value{{zero(), q.b, q.m}, {zero(), q.c, q.n}, {zero(), q.d, mul(q.m, q.n)}} {
			sum.Add(sum, v.float())
		}
		near, _ := sum.Rat(nil)
		q.a = neg(plain(near).near(2 * digits))
		checkSign(t, q)
		q.a = sub(q.a, fraction(2*digits))
		checkSign(t, q)
		q.a = neg(near)
		checkSign(t, q)
	}
}

// At 2^45, the numbers leave the range of the intervals of layer 4; below 2^-16, they are less than their unit.
func TestSignsOfAllSizes(t *testing.T) {
	sizes := numbers("1/" + nines(30) + " 1/65537 1/65536 1/65535 1 35184372088831 35184372088832 35184372088833 " + nines(30))
	for _, x := range sizes {
		for _, y := range sizes {
			for _, z := range sizes {
				for _, q := range []quad{{x, neg(y), zero(), zero(), z, z}, {x, zero(), neg(y), zero(), y, z}, {neg(x), zero(), zero(), y, z, z}, {zero(), x, neg(y), zero(), y, z}, {x, y, neg(z), zero(), x, y}, {neg(x), neg(x), y, z, y, one()}} {
					checkSign(t, q)
				}
			}
		}
	}
}
