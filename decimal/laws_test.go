package decimal_test

import (
	"math/big"
	"math/rand"
	"testing"

	"swarf/api"
	"swarf/decimal"
)

// checkRestored formats a number that has a decimal text, and parses the text.
func checkRestored(t *testing.T, x *big.Rat) {
	t.Helper()
	s, ok := decimal.Exact(ratOf(x))
	if !ok {
		t.Fatalf("P6.2: Exact of %.60v fails", x)
	}
	if got, e := decimal.Parse(s); e != api.OK || !same(got, ratOf(x)) {
		t.Fatalf("P6.2: the text %q of %v is parsed to %v, %v", s, x, got, e)
	}
}

func TestParseRestoresNumbers(t *testing.T) {
	r := rand.New(rand.NewSource(3))
	for digits := range 31 {
		for range 100 {
			checkRestored(t, randomDecimal(r, digits))
		}
		for n := int64(-300); n <= 300; n++ {
			checkRestored(t, mul(big.NewRat(n, 1), fraction(digits)))
		}
		checkRestored(t, add(number(nines(960)), fraction(digits)))
	}
}

func TestParseRestoresThousandths(t *testing.T) {
	forLengths(func(n int64) {
		s := decimal.Millimetres(n)
		if got, e := decimal.Parse(s); e != api.OK || !same(got, ratOf(big.NewRat(n, 1000))) {
			t.Fatalf("P6.2: the text %q of %d thousandths is parsed to %v, %v", s, n, got, e)
		}
		if n < -api.MaxGrid || n > api.MaxGrid {
			return
		}
		if got, e := decimal.FromMillimetres(s); e != api.OK || got != n {
			t.Fatalf("P6.2: the text %q of %d thousandths is read as %d, %v", s, n, got, e)
		}
	})
}

// isAtMost reports whether |v| is at most x.
func isAtMost(v value, x *big.Rat) bool {
	f := v.float()
	return f.Abs(f).Cmp(new(big.Float).SetPrec(precision).SetRat(x)) <= 0
}

func TestRoundedValuesAreNear(t *testing.T) {
	minus := func(v value, n *big.Int) value { return v.plus(neg(new(big.Rat).SetInt(n))) }
	for _, v := range values() {
		r := rootOf(v)
		nearest, down, up := bigOf(decimal.Nearest(r)), bigOf(decimal.Down(r)), bigOf(decimal.Up(r))
		if !isAtMost(minus(v, nearest), half()) {
			t.Fatalf("P6.2: %v is rounded to %v", v, nearest)
		}
		if minus(v, down).float().Sign() < 0 || minus(v, up).float().Sign() > 0 || new(big.Int).Sub(up, down).Cmp(big.NewInt(1)) > 0 || nearest.Cmp(down) < 0 || nearest.Cmp(up) > 0 {
			t.Fatalf("P6.2: %v is from %v to %v, and rounded to %v", v, down, up, nearest)
		}
		p, e := decimal.Snap(pointOf(v, v))
		if e == api.OK && (!isAtMost(minus(v, big.NewInt(p.X)), half()) || !isAtMost(minus(v, big.NewInt(p.Y)), half())) {
			t.Fatalf("P6.2: (%v, %v) is moved to %v", v, v, p)
		}
	}
}

func TestFormattedValuesAreNear(t *testing.T) {
	for _, x := range samples() {
		for digits := range 31 {
			s, e := decimal.Format(ratOf(x), digits)
			if e != api.OK {
				t.Fatalf("P6.2: Format of %v with %d digits: %v", x, digits, e)
			}
			distance := mul(sub(number(s), x), power(digits))
			if distance.Abs(distance).Cmp(half()) > 0 {
				t.Fatalf("P6.2: %v has the text %s", x, s)
			}
		}
	}
}
