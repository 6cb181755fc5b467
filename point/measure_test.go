package point_test

import (
	"math/big"
	"math/rand"
	"testing"

	"swarf/api"
	"swarf/point"
	"swarf/rational"
	"swarf/root"
)

func TestTranslate(t *testing.T) {
	for _, x := range [][3]string{
		{"1 1 3 0 2", "2 -3", "3 1 0 0 2"},
		{"0 1 0 1 8", "0 0", "0 1 0 1 8"},
		{"1/2 0 -1/3 0 0", "1/2 1/3", "1 0 0 0 0"},
		{"0 0 0 -1 3/4", "1/2 -5/6", "1/2 0 -5/6 -1 3/4"},
	} {
		check(t, point.Translate(pointFrom(x[0]), vecOf(vecFrom(x[1]))), parse(x[2]), "Translate", x[0], x[1])
	}
	for _, p := range places() {
		for _, v := range vectors() {
			check(t, point.Translate(pointOf(p), vecOf(v)), p.moved(v.x, v.y), "Translate", p, v)
		}
		// Here, the rational parts become 0.
		check(t, point.Translate(pointOf(p), vecOf(vec{neg(p.ax), neg(p.ay)})), place{zero(), p.bx, zero(), p.by, p.c}, "Translate", p)
	}
}

// checkSquare compares the square of a distance with the sum of the squares of the coordinates' differences.
func checkSquare(t *testing.T, p place, v vec) {
	t.Helper()
	x, y := value{sub(p.ax, v.x), p.bx, p.c}, value{sub(p.ay, v.y), p.by, p.c}
	want := x.times(x).plus(y.times(y))
	if got := point.Square(pointOf(p), vecOf(v)); !sameRoot(got, rootOf(want)) || !root.Valid(got) {
		t.Fatalf("P7.1: Square of %v and %v: got %v, want %v", p, v, got, want)
	}
}

func TestSquareExamples(t *testing.T) {
	for x, want := range map[[2]string]string{
		{"0 1 0 1 2", "1 0"}:        "5 -2 2",
		{"0 1 0 1 2", "0 0"}:        "4 0 0",
		{"0 1 0 0 8", "0 0"}:        "8 0 0",
		{"0 1 0 0 8", "1 0"}:        "9 -2 8",
		{"1 1 1 -1 2", "0 0"}:       "6 0 0",
		{"1 1 -1 1 2", "0 0"}:       "6 0 0",
		{"1 1 1 1 2", "0 0"}:        "6 4 2",
		{"1 0 0 2 6", "0 0"}:        "25 0 0",
		{"1 0 0 2 6", "6 0"}:        "49 0 0",
		{"3 0 4 0 0", "0 0"}:        "25 0 0",
		{"3 0 4 0 0", "3 4"}:        "0 0 0",
		{"1/2 0 0 -1 3/4", "0 0"}:   "1 0 0",
		{"1/2 0 0 -1 3/4", "0 1/2"}: "5/4 1 3/4",
		{"1/2 0 1/3 0 0", "0 0"}:    "13/36 0 0",
	} {
		if got := point.Square(pointFrom(x[0]), vecOf(vecFrom(x[1]))); !sameRoot(got, rootFrom(want)) {
			t.Errorf("P7.1: Square of %v: got %v, want %s", x, got, want)
		}
	}
}

func TestSquare(t *testing.T) {
	for _, p := range places() {
		for _, v := range vectors() {
			checkSquare(t, p, v)
		}
		// The irrational parts of these squares are often 0.
		checkSquare(t, p, vec{p.ax, p.ay})
		checkSquare(t, p, vec{sub(p.ax, p.by), add(p.ay, p.bx)})
	}
}

// checkNear compares the distances of the coordinates with the tolerance.
func checkNear(t *testing.T, p place, tol *big.Rat) {
	t.Helper()
	got, e := point.Near(pointOf(p), ratOf(tol))
	if e != api.OK || !rational.Valid(got.X) || !rational.Valid(got.Y) {
		t.Fatalf("P7.1: Near of %v with the tolerance %v: got %v, %v", p, tol, got, e)
	}
	for i, v := range []value{p.x(), p.y()} {
		x := numberOf([]api.Rat{got.X, got.Y}[i])
		if v.cmp(plain(add(x, tol))) > 0 || v.cmp(plain(sub(x, tol))) < 0 {
			t.Fatalf("P7.1: Near of %v with the tolerance %v: got %v", p, tol, got)
		}
	}
	// Which point it is is not specified, but it must be the same one again.
	again, e := point.Near(pointOf(p), ratOf(tol))
	if e != api.OK || !sameVec(again, got) {
		t.Fatalf("P7.1: Near of %v with the tolerance %v: got %v, and then %v", p, tol, got, again)
	}
}

func TestNear(t *testing.T) {
	var tolerances []*big.Rat
	for _, s := range []string{"1", "1/2", "1/1000", "7/3", "1000000", nines(50), "1/1" + zeros(9), nines(20) + "/1" + zeros(40)} {
		tolerances = append(tolerances, number(s))
	}
	r := rand.New(rand.NewSource(3))
	for _, p := range places() {
		for _, tol := range tolerances {
			checkNear(t, p, tol)
		}
		checkNear(t, p, randomPositive(r, 30))
	}
}

// With these tolerances, the numbers have far more than 256 binary digits behind the point.
func TestNearWithTinyTolerances(t *testing.T) {
	for i, p := range places() {
		if i%5 == 0 {
			checkNear(t, p, fraction(80))
			checkNear(t, p, mul(fraction(300), big.NewRat(7, 3)))
		}
	}
	checkNear(t, parse("1 1 0 -1 2"), fraction(3000))
}

func TestNearFails(t *testing.T) {
	for _, s := range []string{"0 0 0 0 0", "1/2 0 -1 0 0", "1 1 3 0 2", "3 0 1 1 2", "0 1 0 1 8"} {
		for _, tol := range []string{"0", "-1", "-1/1000", "-" + nines(40), "-1/" + nines(40)} {
			if got, e := point.Near(pointFrom(s), ratOf(number(tol))); e != api.ErrInvalid || !sameVec(got, api.Vec{}) {
				t.Errorf("P7.1: Near of %s with the tolerance %s: got %v, %v", s, tol, got, e)
			}
		}
	}
}
