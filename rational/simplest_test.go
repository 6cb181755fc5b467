package rational_test

import (
	"math/big"
	"math/rand"
	"testing"

	"swarf/api"
	"swarf/rational"
)

// checkSimplest compares the simplest number between x and y with the right one.
func checkSimplest(t *testing.T, x, y, want *big.Rat) {
	t.Helper()
	got, e := rational.Simplest(ratOf(x), ratOf(y))
	if e != api.OK {
		t.Fatalf("P2.1: Simplest of %v and %v: %v", x, y, e)
	}
	check(t, got, want, "Simplest", x, y)
}

func TestSimplestExamples(t *testing.T) {
	for _, x := range [][3]string{
		{"3/10", "4/10", "1/3"},
		{"-5/2", "7/2", "0"},
		{"2", "3", "5/2"},
		{"-3", "-2", "-5/2"},
		{"0", "1/2", "1/3"},
		{"-1/2", "0", "-1/3"},
		{"0", "1", "1/2"},
		{"0", "2", "1"},
		{"-1", "1", "0"},
		{"2", "4", "3"},
		{"5/2", "100", "3"},
		{"-100", "-5/2", "-3"},
		{"1", "9/8", "10/9"},
		{"7/8", "1", "8/9"},
		{"0", "1/1000000000000000000", "1/1000000000000000001"},
		{"1000000000", "1000000001", "2000000001/2"},
		{"3141592653589793/1000000000000000", "3141592653589794/1000000000000000", "165707065/52746197"},
		{"1/3", "1/2", "2/5"},
		{"12/31", "13/33", "7/18"},
	} {
		checkSimplest(t, number(x[0]), number(x[1]), number(x[2]))
	}
}

func TestSimplestFails(t *testing.T) {
	for _, x := range [][2]string{{"1", "1"}, {"0", "0"}, {"2", "1"}, {"1/2", "1/3"}, {"1/3", "1/3"}, {"-1", "-2"}, {"1", "-1"}, {"-1/3", "-1/2"}, {"0", "-1"}, {"1", "0"}} {
		got, e := rational.Simplest(ratOf(number(x[0])), ratOf(number(x[1])))
		if e != api.ErrInvalid || !same(got, api.Rat{}) {
			t.Errorf("P2.1: Simplest of %v: got %v, %v", x, got, e)
		}
	}
}

// search tries all denominators, beginning with 1.
func search(x, y *big.Rat) *big.Rat {
	for den := int64(1); ; den++ {
		d := new(big.Rat).SetInt64(den)
		num, high := new(big.Rat).Mul(x, d), new(big.Rat).Mul(y, d)
		var best *big.Rat
		for n := floorOf(num) + 1; new(big.Rat).SetInt64(n).Cmp(high) < 0; n++ {
			z := big.NewRat(n, den)
			if best == nil || new(big.Rat).Abs(z).Cmp(new(big.Rat).Abs(best)) < 0 {
				best = z
			}
		}
		if best != nil {
			return best
		}
	}
}

// floorOf rounds down.
func floorOf(x *big.Rat) int64 { return new(big.Int).Div(x.Num(), x.Denom()).Int64() }

func TestSimplestBetweenSmallNumbers(t *testing.T) {
	var list []*big.Rat
	for den := int64(1); den <= 7; den++ {
		for num := -2 * den; num <= 2*den; num++ {
			list = append(list, big.NewRat(num, den))
		}
	}
	for _, x := range list {
		for _, y := range list {
			if x.Cmp(y) < 0 {
				checkSimplest(t, x, y, search(x, y))
			}
		}
	}
}

// isSimplest reports whether z, which lies between x and y and is not an integer, is the simplest number there: all numbers between its two neighbours with lesser denominators (z is their sum, part by part) have greater denominators than z, and the neighbours do not lie between x and y.
func isSimplest(x, y, z *big.Rat) bool {
	num, den := z.Num(), z.Denom()
	lowDen := new(big.Int).ModInverse(num, den)
	lowNum := new(big.Int).Mul(num, lowDen)
	lowNum.Sub(lowNum, big.NewInt(1)).Div(lowNum, den)
	low := new(big.Rat).SetFrac(lowNum, lowDen)
	high := new(big.Rat).SetFrac(new(big.Int).Sub(num, lowNum), new(big.Int).Sub(den, lowDen))
	return low.Cmp(x) <= 0 && y.Cmp(high) <= 0
}

func TestSimplestBetweenLongNumbers(t *testing.T) {
	r := rand.New(rand.NewSource(4))
	for i := range 3000 {
		x := randomRat(r, 1+i%60)
		y := new(big.Rat).Add(x, new(big.Rat).SetFrac(randomInt(r, 3), new(big.Int).Add(pow10(i%70), big.NewInt(1))))
		got, e := rational.Simplest(ratOf(x), ratOf(y))
		z := number(rational.Format(got))
		if e != api.OK || !rational.Valid(got) || x.Cmp(z) >= 0 || z.Cmp(y) >= 0 {
			t.Fatalf("P2.1: Simplest of %v and %v: got %v, %v", x, y, z, e)
		}
		if z.IsInt() {
			// An integer that is nearer to 0 must not lie between them.
			nearer := new(big.Rat).Sub(z, new(big.Rat).SetInt64(int64(z.Sign())))
			if z.Sign() != 0 && x.Cmp(nearer) < 0 && nearer.Cmp(y) < 0 {
				t.Fatalf("P2.1: %v is simpler than %v, between %v and %v", nearer, z, x, y)
			}
		} else if !isSimplest(x, y, z) {
			t.Fatalf("P2.1: %v is not the simplest number between %v and %v", z, x, y)
		}
	}
}

// The continued fractions of quotients of successive Fibonacci numbers are the longest ones.
func TestSimplestBetweenFibonacciQuotients(t *testing.T) {
	x, y, z := big.NewInt(1), big.NewInt(1), big.NewInt(2)
	for range 1000 {
		a, b := new(big.Rat).SetFrac(y, x), new(big.Rat).SetFrac(z, y)
		if a.Cmp(b) > 0 {
			a, b = b, a
		}
		// Between neighbours, the simplest number is their sum, part by part.
		checkSimplest(t, a, b, new(big.Rat).SetFrac(new(big.Int).Add(y, z), new(big.Int).Add(x, y)))
		x, y, z = y, z, new(big.Int).Add(y, z)
	}
}
