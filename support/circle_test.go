package support_test

import (
	"math/big"
	"math/rand"
	"testing"

	"swarf/api"
	"swarf/support"
)

func TestValidCircle(t *testing.T) {
	for _, c := range circles() {
		if !support.ValidCircle(circleOf(c)) {
			t.Errorf("P8.1: ValidCircle of %v: got false", c)
		}
		for _, a := range invalidNumbers() {
			for i := range 3 {
				d := circleOf(c)
				*[]*api.Rat{&d.X, &d.Y, &d.Q}[i] = a
				if support.ValidCircle(d) {
					t.Errorf("P8.1: ValidCircle of %v with %v in field %d: got true", c, a, i)
				}
			}
		}
	}
	for _, s := range []string{"0 0 0", "1 2 0", "0 0 -1", "3 4 -1/2", "1/2 1/3 -" + nines(40), "0 0 -1/" + nines(40)} {
		if support.ValidCircle(circleOf(circleFrom(s))) {
			t.Errorf("P8.1: ValidCircle of %s: got true", s)
		}
	}
	if support.ValidCircle(api.Circle{}) {
		t.Error("P8.1: ValidCircle of the zero value: got true")
	}
}

func TestSameCircle(t *testing.T) {
	list := circles()
	for i, c := range list {
		for j, d := range list {
			if got := support.SameCircle(circleOf(c), circleOf(d)); got != (i == j) {
				t.Fatalf("P8.1: SameCircle of %v and %v: got %v", c, d, got)
			}
		}
		for _, d := range []circle{{add(c.x, fraction(50)), c.y, c.q}, {c.x, sub(c.y, fraction(50)), c.q}, {c.x, c.y, add(c.q, fraction(50))}, {add(c.x, big.NewRat(1, 1)), c.y, c.q}, {c.x, add(c.y, big.NewRat(1, 1)), c.q}, {c.x, c.y, add(c.q, c.q)}} {
			if support.SameCircle(circleOf(c), circleOf(d)) || support.SameCircle(circleOf(d), circleOf(c)) {
				t.Fatalf("P8.1: SameCircle of %v and %v: got true", c, d)
			}
		}
	}
	// The fields of these circles are the same numbers in another order, or differ in signs.
	for _, x := range [][2]string{{"1 2 3", "2 1 3"}, {"1 2 3", "1 3 2"}, {"1 2 3", "-1 2 3"}, {"1 2 3", "1 -2 3"}} {
		if support.SameCircle(circleOf(circleFrom(x[0])), circleOf(circleFrom(x[1]))) {
			t.Errorf("P8.1: SameCircle of %v: got true", x)
		}
	}
}

func TestInsideExamples(t *testing.T) {
	for x, want := range map[[2]string]int{
		{"0 0 1", "0 1/2 0 1/2 2"}:          0,
		{"0 0 1", "0 1 0 1 1/2"}:            0,
		{"0 0 1", "0 0 0 0 0"}:              1,
		{"0 0 1", "1 0 0 0 0"}:              0,
		{"0 0 1", "0 0 -1 0 0"}:             0,
		{"0 0 1", "1 0 1 0 0"}:              -1,
		{"0 0 1", "3/5 0 -4/5 0 0"}:         0,
		{"0 0 1", "3/5 0 -3/5 0 0"}:         1,
		{"0 0 1", "1/2 0 0 1 3/4"}:          0,
		{"0 0 1", "1/2 0 0 -1/2 3"}:         0,
		{"0 0 25", "1 0 0 2 6"}:             0,
		{"0 0 25", "1 0 0 -2 6"}:            0,
		{"0 0 24", "1 0 0 -2 6"}:            -1,
		{"0 0 26", "1 0 0 -2 6"}:            1,
		{"6 0 49", "1 0 0 2 6"}:             0,
		{"0 0 2", "0 -1 0 0 2"}:             0,
		{"0 0 4", "0 1 0 1 2"}:              0,
		{"1 0 2", "0 1 0 1 2"}:              -1,
		{"1 0 3", "0 1 0 1 2"}:              1,
		{"0 0 6", "1 1 1 -1 2"}:             0,
		{"0 0 11", "1 1 1 1 2"}:             -1,
		{"0 0 12", "1 1 1 1 2"}:             1,
		{"1 1 4", "1 1 1 1 2"}:              0,
		{"1 1 5", "1 1 1 1 2"}:              1,
		{"1/2 1/3 13/36", "0 0 0 0 0"}:      0,
		{"1/2 -1/3 13/36", "1 0 0 0 0"}:     0,
		{"1/2 -1/3 13/36", "1 0 1 0 0"}:     -1,
		{"0 0 2", "2 0 0 0 0"}:              -1,
		{"0 0 1/4", "1/2 0 0 0 0"}:          0,
		{"5 7 1/" + nines(40), "5 0 7 0 0"}: 1,
	} {
		if got := support.Inside(circleOf(circleFrom(x[0])), pointFrom(x[1])); got != want {
			t.Errorf("P8.1: Inside of %v: got %d, want %d", x, got, want)
		}
	}
}

func TestInside(t *testing.T) {
	for _, c := range circles() {
		for _, p := range places() {
			if got, want := support.Inside(circleOf(c), pointOf(p)), p.inside(c); got != want {
				t.Fatalf("P8.1: Inside of %v and %v: got %d, want %d", c, p, got, want)
			}
		}
	}
}

// Most of these points are irrational, but on the circle, or so near to it that no approximation tells where they are.
func TestInsideNearCircles(t *testing.T) {
	r := rand.New(rand.NewSource(6))
	for _, center := range vectors() {
		for i := range 10 {
			// The part that is rational and the one that is not are perpendicular. So the square of the distance is rational.
			root, v := randomRadicand(r, 1+i), randomVec(r, 1+i)
			u := v.turnedLeft().times(randomRat(r, 1+i))
			q := add(u.dot(u), mul(root, v.dot(v)))
			if q.Sign() == 0 {
				continue
			}
			u = u.plus(center)
			p := place{u.x, v.x, u.y, v.y, root}
			tiny := mul(q, fraction(60))
			for want, square := range map[int]*big.Rat{-1: sub(q, tiny), 0: q, 1: add(q, tiny)} {
				c := circle{center.x, center.y, square}
				if got := support.Inside(circleOf(c), pointOf(p)); got != want {
					t.Fatalf("P8.1: Inside of %v and %v: got %d, want %d", c, p, got, want)
				}
				if got := support.Inside(circleOf(c), pointOf(p.another(big.NewRat(3, 7)))); got != want {
					t.Fatalf("P8.1: Inside of %v and %v with another radicand: got %d, want %d", c, p, got, want)
				}
			}
		}
	}
}

// The square of the distance is 3 + 2 sqrt(2), and those of the radii are alternately less and greater.
func TestInsideOfConvergents(t *testing.T) {
	num, den := big.NewInt(1), big.NewInt(1)
	for i := range 200 {
		root := new(big.Rat).SetFrac(num, den)
		c := circle{big.NewRat(7, 1), zero(), add(big.NewRat(3, 1), add(root, root))}
		want := 2*(i%2) - 1
		if got := support.Inside(circleOf(c), pointFrom("8 1 0 0 2")); got != want {
			t.Fatalf("P8.1: Inside of %v and 8 + sqrt(2): got %d, want %d", c, got, want)
		}
		num, den = new(big.Int).Add(num, new(big.Int).Lsh(den, 1)), new(big.Int).Add(num, den)
	}
}

func TestCircleThroughExamples(t *testing.T) {
	for x, want := range map[[3]string]string{
		{"1 0", "0 1", "-1 0"}:                           "0 0 1",
		{"-1 0", "0 1", "0 -1"}:                          "0 0 1",
		{"0 0", "2 0", "0 2"}:                            "1 1 2",
		{"0 0", "4 0", "0 3"}:                            "2 3/2 25/4",
		{"3 4", "-3 4", "3 -4"}:                          "0 0 25",
		{"1 1", "2 2", "3 1"}:                            "2 1 1",
		{"0 0", "1 0", "0 1"}:                            "1/2 1/2 1/2",
		{"1/2 1/3", "3/2 1/3", "1/2 -5/3"}:               "1 -2/3 5/4",
		{"0 0", "1 0", "1/2 1/1000"}:                     "1/2 -249999/2000 62500500001/4000000",
		{"1000000000 0", "1000000001 1", "1000000000 2"}: "1000000000 1 1",
	} {
		got, e := support.CircleThrough(vecOf(vecFrom(x[0])), vecOf(vecFrom(x[1])), vecOf(vecFrom(x[2])))
		if e != api.OK || !sameCircle(got, circleOf(circleFrom(want))) {
			t.Errorf("P8.1: CircleThrough of %v: got %v, %v", x, got, e)
		}
	}
}

// checkCircle compares a result with the circle whose center has the distances of three points; it is ErrZero if these lie on a line.
func checkCircle(t *testing.T, a, b, c vec) {
	t.Helper()
	got, e := support.CircleThrough(vecOf(a), vecOf(b), vecOf(c))
	if a.isStraight(b, c) {
		if e != api.ErrZero || !sameCircle(got, api.Circle{}) {
			t.Fatalf("P8.1: CircleThrough of %v, %v and %v: got %v, %v", a, b, c, got, e)
		}
		return
	}
	if e != api.OK || !support.ValidCircle(got) {
		t.Fatalf("P8.1: CircleThrough of %v, %v and %v: got %v, %v", a, b, c, got, e)
	}
	center, q := vec{numberOf(got.X), numberOf(got.Y)}, numberOf(got.Q)
	for _, v := range []vec{a, b, c} {
		if v.squareTo(center).Cmp(q) != 0 || support.Inside(got, pointOf(v.place())) != 0 {
			t.Fatalf("P8.1: CircleThrough of %v, %v and %v: got %v, without %v", a, b, c, got, v)
		}
	}
}

func TestCircleThrough(t *testing.T) {
	r := rand.New(rand.NewSource(7))
	list := vectors()
	for _, a := range list {
		for _, b := range list {
			checkCircle(t, a, b, list[r.Intn(len(list))])
			// Here, two points are equal, or three are on a line or nearly so.
			d := b.minus(a)
			between := a.plus(d.times(randomRat(r, 9)))
			for _, c := range []vec{a, b, between, a.minus(d), between.plus(d.turnedLeft().times(fraction(30)))} {
				checkCircle(t, a, b, c)
				checkCircle(t, a, c, b)
				checkCircle(t, c, a, b)
			}
		}
	}
}

func TestCircleThroughFails(t *testing.T) {
	for _, x := range [][3]string{
		{"1 2", "1 2", "1 2"},
		{"1 2", "1 2", "3 5"},
		{"1 2", "3 5", "1 2"},
		{"3 5", "1 2", "1 2"},
		{"0 0", "1 0", "2 0"},
		{"0 1", "0 -1", "0 5/2"},
		{"0 0", "1 1", "-1 -1"},
		{"1/2 1/3", "3/2 1", "5/2 5/3"},
		{"0 0", "1 " + nines(40), "2 1" + nines(39) + "8"},
	} {
		got, e := support.CircleThrough(vecOf(vecFrom(x[0])), vecOf(vecFrom(x[1])), vecOf(vecFrom(x[2])))
		if e != api.ErrZero || !sameCircle(got, api.Circle{}) {
			t.Errorf("P8.1: CircleThrough of %v: got %v, %v", x, got, e)
		}
	}
}
