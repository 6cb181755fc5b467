package support_test

import (
	"math"
	"math/big"
	"math/rand"
	"testing"

	"swarf/api"
	"swarf/point"
	"swarf/support"
)

func TestThroughExamples(t *testing.T) {
	for x, want := range map[[2]string]string{
		{"0 0", "2 0"}:          "0 2 0",
		{"2 0", "0 0"}:          "0 -2 0",
		{"0 0", "0 3"}:          "-3 0 0",
		{"5 1", "5 -1"}:         "2 0 10",
		{"0 1", "1 0"}:          "1 1 1",
		{"1 0", "0 1"}:          "-1 -1 -1",
		{"1 2", "4 6"}:          "-4 3 2",
		{"1/2 1/3", "-1/2 1"}:   "-2/3 -1 -2/3",
		{"-1 7/2", "1/3 7/2"}:   "0 4/3 14/3",
		{"1 1", "1 1000000001"}: "-1000000000 0 -1000000000",
	} {
		got, e := support.Through(vecOf(vecFrom(x[0])), vecOf(vecFrom(x[1])))
		if e != api.OK || !sameLine(got, lineOf(lineFrom(want))) {
			t.Errorf("P8.1: Through of %v: got %v, %v", x, got, e)
		}
	}
}

func TestThrough(t *testing.T) {
	for _, a := range vectors() {
		for _, b := range vectors() {
			got, e := support.Through(vecOf(a), vecOf(b))
			if a.equals(b) {
				if e != api.ErrZero || !sameLine(got, api.Line{}) {
					t.Fatalf("P8.1: Through of %v, twice: got %v, %v", a, got, e)
				}
				continue
			}
			n := b.minus(a).turnedLeft()
			want := line{n.x, n.y, n.dot(a)}
			if e != api.OK || !sameLine(got, lineOf(want)) || !support.ValidLine(got) || !a.on(want) || !b.on(want) {
				t.Fatalf("P8.1: Through of %v and %v: got %v, %v", a, b, got, e)
			}
			for i, v := range []vec{a.plus(n.times(fraction(30))), a, b, b.minus(n.times(fraction(30)))} {
				if side := support.Side(got, pointOf(v.place())); side != []int{1, 0, 0, -1}[i] {
					t.Fatalf("P8.1: Side of %v on the way from %v to %v: got %d", v, a, b, side)
				}
			}
		}
	}
}

// invalidNumbers returns numbers that are not valid.
func invalidNumbers() []api.Rat {
	small := func(n ...uint32) api.Int { return api.Int{Limbs: n} }
	return []api.Rat{
		{},
		{Num: small(1)},
		{Den: small(2)},
		{Num: small(2), Den: small(4)},
		{Num: small(2), Den: small(2)},
		{Num: small(3), Den: api.Int{Neg: true, Limbs: []uint32{1}}},
		{Num: api.Int{Neg: true}, Den: small(1)},
		{Num: small(1000000000), Den: small(1)},
		{Num: small(2, 0), Den: small(1)},
		{Num: small(3), Den: small(math.MaxUint32)},
		{Num: small(3), Den: small(1, 0)},
		{Num: small(0), Den: small(1)},
	}
}

func TestValidLine(t *testing.T) {
	for _, l := range lines() {
		if !support.ValidLine(lineOf(l)) {
			t.Errorf("P8.1: ValidLine of %v: got false", l)
		}
		for _, a := range invalidNumbers() {
			for i := range 3 {
				m := lineOf(l)
				*[]*api.Rat{&m.A, &m.B, &m.C}[i] = a
				if support.ValidLine(m) {
					t.Errorf("P8.1: ValidLine of %v with %v in field %d: got true", l, a, i)
				}
			}
		}
	}
	for _, s := range []string{"1 0 0", "0 1 0", "-1 0 0", "0 -1 7", "1/" + nines(40) + " 0 1", "0 1/" + nines(40) + " 1"} {
		if !support.ValidLine(lineOf(lineFrom(s))) {
			t.Errorf("P8.1: ValidLine of %s: got false", s)
		}
	}
	for _, s := range []string{"0 0 0", "0 0 1", "0 0 -1/2"} {
		if support.ValidLine(lineOf(lineFrom(s))) {
			t.Errorf("P8.1: ValidLine of %s: got true", s)
		}
	}
	if support.ValidLine(api.Line{}) {
		t.Error("P8.1: ValidLine of the zero value: got true")
	}
}

func TestSameLineExamples(t *testing.T) {
	for x, want := range map[[2]string]bool{
		{"0 2 0", "0 1 0"}:                              true,
		{"0 2 0", "0 -1/3 0"}:                           true,
		{"1 1 1", "-2 -2 -2"}:                           true,
		{"1/2 -1/3 1/5", "15 -10 6"}:                    true,
		{"3 0 1", "1 0 1/3"}:                            true,
		{"3 0 1", "-1 0 1/3"}:                           false,
		{"0 3 1", "0 1 1/3"}:                            true,
		{"0 3 1", "0 1 -1/3"}:                           false,
		{"1 0 0", "0 1 0"}:                              false,
		{"1 0 1", "0 1 1"}:                              false,
		{"1 1 0", "1 -1 0"}:                             false,
		{"1 2 0", "2 1 0"}:                              false,
		{"1 2 0", "3 6 0"}:                              true,
		{"1 0 0", "1 0 1"}:                              false,
		{"1 0 1", "1 0 2"}:                              false,
		{"0 1 1", "0 1 2"}:                              false,
		{"1 1 1", "1 1 2"}:                              false,
		{"1 1 1", "1 2 1"}:                              false,
		{"1 1 1", "2 1 1"}:                              false,
		{"1 1 1", "2 2 1"}:                              false,
		{"1 1 1", "-1 -1 1"}:                            false,
		{"1 1 1", "1 1 1/1" + nines(40)}:                false,
		{nines(40) + " 1 1", nines(39) + "8 1 1"}:       false,
		{nines(40) + " 1 1", "1 1/" + nines(40) + " 1"}: false,
		{nines(40) + " 1 " + nines(40), "1 1/" + nines(40) + " 1"}: true,
	} {
		l, m := lineOf(lineFrom(x[0])), lineOf(lineFrom(x[1]))
		if support.SameLine(l, m) != want || support.SameLine(m, l) != want {
			t.Errorf("P8.1: SameLine of %v: got %v, and %v in the other order", x, support.SameLine(l, m), support.SameLine(m, l))
		}
	}
}

// pair returns two points of a line.
func (l line) pair() (vec, vec) {
	n := l.normal()
	near := n.times(quo(l.c, n.dot(n)))
	return near, near.plus(n.turnedLeft())
}

func TestSameLine(t *testing.T) {
	for _, l := range lines() {
		for _, m := range lines() {
			v, w := m.pair()
			if got := support.SameLine(lineOf(l), lineOf(m)); got != (v.on(l) && w.on(l)) {
				t.Fatalf("P8.1: SameLine of %v and %v: got %v", l, m, got)
			}
		}
		// These lines share one point with l, or are parallel to it.
		for _, m := range []line{{add(l.a, fraction(50)), l.b, l.c}, {l.a, sub(l.b, fraction(50)), l.c}, {l.a, l.b, add(l.c, fraction(50))}} {
			v, w := m.pair()
			if got := support.SameLine(lineOf(l), lineOf(m)); got != (v.on(l) && w.on(l)) {
				t.Fatalf("P8.1: SameLine of %v and %v: got %v", l, m, got)
			}
		}
	}
}

func TestSideExamples(t *testing.T) {
	for x, want := range map[[2]string]int{
		{"0 2 0", "1 0 1 0 0"}:              1,
		{"0 2 0", "1 0 -1 0 0"}:             -1,
		{"0 -2 0", "1 0 1 0 0"}:             -1,
		{"0 2 0", "7 0 0 0 0"}:              0,
		{"1 1 3", "1 0 2 0 0"}:              0,
		{"1 1 3", "1 0 3 0 0"}:              1,
		{"1 1 3", "0 0 2 0 0"}:              -1,
		{"1/2 1/3 1", "2/3 0 2 0 0"}:        0,
		{"1 -1 0", "0 1 0 1 2"}:             0,
		{"1 -1 0", "0 2 0 2 2"}:             0,
		{"1 -1 0", "0 1 0 0 2"}:             1,
		{"1 -1 0", "0 0 0 1 2"}:             -1,
		{"1 1 1", "1 1 0 -1 2"}:             0,
		{"1 1 2", "1 1 0 -1 2"}:             -1,
		{"1 1 0", "1 1 0 -1 2"}:             1,
		{"1 1 2", "1 1 0 0 2"}:              1,
		{"1 1 3", "1 1 0 0 2"}:              -1,
		{"2 -3 1", "2 3 1 2 5"}:             0,
		{"2 -3 1", "2 3 1 1 5"}:             1,
		{"0 1 0", "5 -7 0 0 3"}:             0,
		{"0 1 -1/2", "5 -7 -1/2 0 3"}:       0,
		{"0 1 1/2", "0 1 0 1 1/3"}:          1,
		{"0 1 3/5", "0 1 0 1 1/3"}:          -1,
		{"1 0 17/12", "0 1 0 0 2"}:          -1,
		{"1 0 41/29", "0 1 0 0 2"}:          1,
		{"-12 0 -17", "0 1 0 0 2"}:          1,
		{"0 12 17", "0 1/2 0 1/2 8"}:        -1,
		{"470832 0 665857", "0 1 0 9 2"}:    -1,
		{"0 470832 665857", "9 0 0 1 2"}:    -1,
		{"0 195025 275807", "9 0 0 1 2"}:    1,
		{"195025 0 275807", "0 1/3 0 0 18"}: 1,
	} {
		if got := support.Side(lineOf(lineFrom(x[0])), pointFrom(x[1])); got != want {
			t.Errorf("P8.1: Side of %v: got %d, want %d", x, got, want)
		}
	}
}

func TestSide(t *testing.T) {
	for _, l := range lines() {
		for _, p := range places() {
			if got, want := support.Side(lineOf(l), pointOf(p)), p.side(l); got != want {
				t.Fatalf("P8.1: Side of %v and %v: got %d, want %d", l, p, got, want)
			}
		}
	}
}

// Most of these points are irrational, but on the line, or so near to it that no approximation tells the side.
func TestSideNearLines(t *testing.T) {
	r := rand.New(rand.NewSource(5))
	for _, l := range lines() {
		n := l.normal()
		v, w := l.pair()
		for i := range 10 {
			c, d := randomRadicand(r, 1+i), w.minus(v).times(randomRat(r, 1+i))
			for sign := -1; sign <= 1; sign++ {
				u := v.plus(n.times(mul(fraction(60), big.NewRat(int64(sign), 1))))
				p := place{u.x, d.x, u.y, d.y, c}
				if got := support.Side(lineOf(l), pointOf(p)); got != sign {
					t.Fatalf("P8.1: Side of %v and %v: got %d, want %d", l, p, got, sign)
				}
				if got := support.Side(lineOf(l), pointOf(p.another(big.NewRat(3, 7)))); got != sign {
					t.Fatalf("P8.1: Side of %v and %v with another radicand: got %d, want %d", l, p, got, sign)
				}
			}
		}
	}
}

// The quotients of these numbers are the convergents of the square root of 2, which are alternately less and greater.
func TestSideOfConvergents(t *testing.T) {
	num, den := big.NewInt(1), big.NewInt(1)
	for i := range 200 {
		l := line{new(big.Rat).SetInt(den), zero(), new(big.Rat).SetInt(num)}
		want := 1 - 2*(i%2)
		if got := support.Side(lineOf(l), pointFrom("0 1 5 3 2")); got != want {
			t.Fatalf("P8.1: Side of %v and the square root of 2: got %d, want %d", l, got, want)
		}
		num, den = new(big.Int).Add(num, new(big.Int).Lsh(den, 1)), new(big.Int).Add(num, den)
	}
}

func TestFootExamples(t *testing.T) {
	for x, want := range map[[2]string]string{
		{"1 1 1", "0 5"}:                    "-2 3",
		{"-3 -3 -3", "0 5"}:                 "-2 3",
		{"1 1 1", "-2 3"}:                   "-2 3",
		{"0 2 0", "7 5"}:                    "7 0",
		{"0 2 3", "7 5"}:                    "7 3/2",
		{"-2 0 1", "7 5"}:                   "-1/2 5",
		{"1 0 0", "0 5"}:                    "0 5",
		{"3 4 25", "0 0"}:                   "3 4",
		{"3 4 0", "3 4"}:                    "0 0",
		{"1/2 -1/3 1/6", "0 0"}:             "3/13 -2/13",
		{"1 2 0", "1/2 1/3"}:                "4/15 -2/15",
		{"1 -1 0", "1000000001 1000000001"}: "1000000001 1000000001",
	} {
		if got := support.Foot(lineOf(lineFrom(x[0])), vecOf(vecFrom(x[1]))); !sameVec(got, vecOf(vecFrom(want))) {
			t.Errorf("P8.1: Foot of %v: got %v, want %s", x, got, want)
		}
	}
}

func TestFoot(t *testing.T) {
	for _, l := range lines() {
		a, b := l.pair()
		for _, v := range append(vectors(), a, b) {
			d := b.minus(a)
			want := a.plus(d.times(quo(d.dot(v.minus(a)), d.dot(d))))
			if got := support.Foot(lineOf(l), vecOf(v)); !sameVec(got, vecOf(want)) {
				t.Fatalf("P8.1: Foot of %v and %v: got %v, want %v", l, v, got, want)
			}
			// No other point of the line is as near.
			for _, k := range numbers("1 -1 1/" + nines(20) + " -" + nines(20)) {
				if u := want.plus(d.times(k)); !want.on(l) || !u.on(l) || v.squareTo(u).Cmp(v.squareTo(want)) <= 0 {
					t.Fatalf("P8.1: Foot of %v and %v: %v is not farther away than %v", l, v, u, want)
				}
			}
			if !v.on(l) {
				continue
			}
			if got := support.Foot(lineOf(l), vecOf(v)); !point.Equal(point.At(got), pointOf(v.place())) {
				t.Fatalf("P8.1: Foot of %v and its point %v: got %v", l, v, got)
			}
		}
	}
}
