package radical_test

import (
	"math/big"
	"math/rand"
	"testing"

	"swarf/api"
	"swarf/radical"
	"swarf/rational"
)

// checkBetween examines the simplest number between v and w, which is returned.
func checkBetween(t *testing.T, v, w value) *big.Rat {
	t.Helper()
	got, e := radical.Between(rootOf(v), rootOf(w))
	if e != api.OK || !rational.Valid(got) {
		t.Fatalf("P5.1: Between of %v and %v: got %v, %v", v, w, got, e)
	}
	z := new(big.Rat).SetFrac(bigOf(got.Num), bigOf(got.Den))
	if !inside(v, w, z) {
		t.Fatalf("P5.1: Between of %v and %v: %v is not between them", v, w, z)
	}
	if z.IsInt() {
		// An integer that is nearer to 0 must not lie between them.
		if nearer := sub(z, big.NewRat(int64(z.Sign()), 1)); z.Sign() != 0 && inside(v, w, nearer) {
			t.Fatalf("P5.1: Between of %v and %v: %v is simpler than %v", v, w, nearer, z)
		}
		return z
	}
	// All numbers between the two neighbours of z with lesser denominators (z is their sum, part by part) have greater denominators than z.
	num, den := z.Num(), z.Denom()
	lowDen := new(big.Int).ModInverse(num, den)
	lowNum := mulInt(num, lowDen)
	lowNum.Sub(lowNum, big.NewInt(1)).Div(lowNum, den)
	low := new(big.Rat).SetFrac(lowNum, lowDen)
	high := new(big.Rat).SetFrac(new(big.Int).Sub(num, lowNum), new(big.Int).Sub(den, lowDen))
	if inside(v, w, low) || inside(v, w, high) {
		t.Fatalf("P5.1: Between of %v and %v: %v is not the simplest number", v, w, z)
	}
	return z
}

// inside reports whether x is greater than v and less than w.
func inside(v, w value, x *big.Rat) bool { return v.cmp(plain(x)) < 0 && w.cmp(plain(x)) > 0 }

func TestBetweenExamples(t *testing.T) {
	for x, want := range map[[2]string]string{
		{"0 1 2", "0 1 3"}:                                "3/2",
		{"0 0 0", "1/2 0 0"}:                              "1/3",
		{"-5/2 0 0", "0 1 2"}:                             "0",
		{"0 -1 3", "0 -1 2"}:                              "-3/2",
		{"-1/2 0 0", "0 0 0"}:                             "-1/3",
		{"0 -1 2", "5/2 0 0"}:                             "0",
		{"0 -1 2", "0 0 0"}:                               "-1",
		{"0 0 0", "0 1 2"}:                                "1",
		{"0 0 0", "0 1 1/2"}:                              "1/2",
		{"1 0 0", "0 1 2"}:                                "4/3",
		{"0 1 2", "0 1 10"}:                               "2",
		{"0 1 2", "2 0 0"}:                                "3/2",
		{"0 1 2", "3/2 0 0"}:                              "10/7",
		{"7/5 0 0", "0 1 2"}:                              "24/17",
		{"0 1 2", "1 1 2"}:                                "2",
		{"-1 1 2", "1/2 0 0"}:                             "3/7",
		{"2 0 0", "3 0 0"}:                                "5/2",
		{"-3 0 0", "-2 0 0"}:                              "-5/2",
		{"0 1 90", "0 1 99"}:                              "19/2",
		{"0 -1 99", "0 -1 90"}:                            "-19/2",
		{"0 -1 99", "0 1 2"}:                              "0",
		{"0 -1 99", "0 -1 2"}:                             "-2",
		{"665857/470832 0 0", "665858/470832 0 0"}:        "1970/1393",
		{"0 1 " + nines(40), "0 1 1" + zeros(39) + "1"}:   "1" + zeros(20),
		{"0 -1 1" + zeros(39) + "1", "0 -1 " + nines(40)}: "-1" + zeros(20),
		{"0 0 0", "0 1 1/" + nines(40)}:                   "1/1" + zeros(20),
	} {
		got, e := radical.Between(rootFrom(x[0]), rootFrom(x[1]))
		if e != api.OK || rational.Format(got) != want {
			t.Errorf("P5.1: Between of %v: got %s, %v, want %s", x, rational.Format(got), e, want)
		}
	}
}

func TestBetweenFails(t *testing.T) {
	for _, x := range [][2]string{{"0 0 0", "0 0 0"}, {"1 0 0", "0 0 0"}, {"0 1 2", "0 1 2"}, {"0 1 8", "0 2 2"}, {"0 2 2", "0 1 8"}, {"0 -1 8", "0 -4 1/2"}, {"0 1 3", "0 1 2"}, {"0 -1 2", "0 -1 3"}, {"0 1 2", "0 -1 2"}, {"3/2 0 0", "0 1 2"}, {"0 1 2", "7/5 0 0"}, {"1/2 0 0", "1/3 0 0"}, {nines(40) + " 1 2", nines(40) + " 1/3 18"}} {
		if got, e := radical.Between(rootFrom(x[0]), rootFrom(x[1])); e != api.ErrInvalid || !same(got, api.Rat{}) {
			t.Errorf("P5.1: Between of %v: got %v, %v", x, got, e)
		}
	}
}

func TestBetweenAllValues(t *testing.T) {
	list := values()
	for _, v := range list {
		for _, w := range list {
			if v.cmp(w) < 0 {
				checkBetween(t, v, w)
			} else if got, e := radical.Between(rootOf(v), rootOf(w)); e != api.ErrInvalid || !same(got, api.Rat{}) {
				t.Fatalf("P5.1: Between of %v and %v: got %v, %v", v, w, got, e)
			}
		}
	}
}

// search tries all denominators, beginning with 1.
func search(v, w value) *big.Rat {
	for den := int64(1); ; den++ {
		var best *big.Rat
		for num := -6 * den; num <= 6*den; num++ {
			z := big.NewRat(num, den)
			if inside(v, w, z) && (best == nil || new(big.Rat).Abs(z).Cmp(new(big.Rat).Abs(best)) < 0) {
				best = z
			}
		}
		if best != nil {
			return best
		}
	}
}

func TestBetweenSmallNumbers(t *testing.T) {
	var list []value
	for _, s := range []string{"0 1 2", "0 1 3", "-1 1 5", "1 -1 2", "0 1 1/2", "-3 1 7", "0 -2 2/3", "1/3 1/3 11", "0 0 0", "1 0 0", "-1 0 0", "3/2 0 0", "-7/3 0 0", "2/5 0 0", "3 0 0"} {
		list = append(list, parse(s))
	}
	for _, v := range list {
		for _, w := range list {
			if v.cmp(w) < 0 {
				if got, want := checkBetween(t, v, w), search(v, w); got.Cmp(want) != 0 {
					t.Errorf("P5.1: Between of %v and %v: got %v, want %v", v, w, got, want)
				}
			}
		}
	}
}

// The values differ so little that the numbers between them are long.
func TestBetweenNeighbours(t *testing.T) {
	r := rand.New(rand.NewSource(7))
	for i := range 200 {
		v := randomValue(r, 1+i/10)
		w := v.another(r)
		for _, digits := range []int{2, 10, 40, 100} {
			width := fraction(digits)
			checkBetween(t, v, value{add(w.a, width), w.b, w.c})
			checkBetween(t, value{sub(w.a, width), w.b, w.c}, v)
			// One end is rational, and the other one is not.
			if v.b.Sign() != 0 {
				low := v.near(digits)
				checkBetween(t, plain(low), v)
				checkBetween(t, v, plain(add(low, width)))
			}
		}
	}
}

// A simple number lies right beside one of the values, so that only very near bounds exclude it.
func TestBetweenBesideSimpleNumbers(t *testing.T) {
	for _, digits := range []int{3, 10, 40, 200} {
		for _, s := range []string{"0", "1", "-2", "5", "1/2", "-7/3"} {
			x, small := number(s), new(big.Rat).SetFrac(big.NewInt(1), new(big.Int).Sub(pow10(digits), big.NewInt(7)))
			above := value{x, small, big.NewRat(2, 1)}
			below := value{x, neg(small), big.NewRat(3, 1)}
			if got := checkBetween(t, below, above); got.Cmp(x) != 0 {
				t.Errorf("P5.1: Between of %v and %v: got %v", below, above, got)
			}
			checkBetween(t, above, plain(add(x, big.NewRat(1, 3))))
			checkBetween(t, plain(sub(x, big.NewRat(1, 3))), below)
			checkBetween(t, above, value{x, one(), big.NewRat(1, 50)})
			checkBetween(t, plain(x), above)
			checkBetween(t, below, plain(x))
		}
	}
}
