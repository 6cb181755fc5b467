package point_test

import (
	"math"
	"math/big"
	"math/rand"
	"testing"

	"swarf/api"
	"swarf/point"
)

// vectors returns rational vectors of all signs and sizes.
func vectors() []vec {
	var list []vec
	for _, s := range []string{"0 0", "1 0", "0 1", "-1 1", "3/2 -5/6", "-7 1/3", nines(40) + " 1/" + nines(40), "1000000000 -999999999/1000000000"} {
		list = append(list, vecFrom(s))
	}
	r := rand.New(rand.NewSource(2))
	for i := range 30 {
		list = append(list, randomVec(r, 1+i))
	}
	return list
}

func TestAt(t *testing.T) {
	for _, v := range vectors() {
		check(t, point.At(vecOf(v)), place{v.x, zero(), v.y, zero(), zero()}, "At", v)
	}
}

func TestOfGrid(t *testing.T) {
	list := []int64{0, 1, -1, 7, 999999999, 1000000000, -1000000001, api.MaxGrid, -api.MaxGrid, math.MaxInt64, math.MinInt64, math.MinInt64 + 1}
	for _, x := range list {
		for _, y := range list {
			g := api.Grid2{X: x, Y: y}
			check(t, point.OfGrid(g), place{big.NewRat(x, 1), zero(), big.NewRat(y, 1), zero(), zero()}, "OfGrid", g)
		}
	}
}

func TestMakeExamples(t *testing.T) {
	for x, want := range map[[2]string]string{
		{"1 1 2", "3 0 0"}:       "1 1 3 0 2",
		{"3 0 0", "1 1 2"}:       "3 0 1 1 2",
		{"0 1 2", "0 1 2"}:       "0 1 0 1 2",
		{"0 1 2", "0 -1 2"}:      "0 1 0 -1 2",
		{"1 1 2", "-1 -1 2"}:     "1 1 -1 -1 2",
		{"0 1 8", "0 1 8"}:       "0 1 0 1 8",
		{"0 1 8", "0 2 8"}:       "0 1 0 2 8",
		{"0 1/3 5/7", "0 2 5/7"}: "0 1/3 0 2 5/7",
		{"0 0 0", "0 0 0"}:       "0 0 0 0 0",
		{"1/2 0 0", "-3 0 0"}:    "1/2 0 -3 0 0",
		{"0 0 0", "0 1 1/2"}:     "0 0 0 1 1/2",
		{"0 1 1/2", "0 0 0"}:     "0 1 0 0 1/2",
	} {
		got, e := point.Make(rootFrom(x[0]), rootFrom(x[1]))
		if e != api.OK {
			t.Fatalf("P7.1: Make of %v: %v", x, e)
		}
		check(t, got, parse(want), "Make", x)
	}
}

func TestMakeFails(t *testing.T) {
	for _, x := range [][2]string{
		{"0 1 2", "0 1 3"},
		{"0 1 3", "0 1 2"},
		// These values have a common radicand, but the roots have none.
		{"0 1 2", "0 1 8"},
		{"0 2 2", "0 1 8"},
		{"0 1 8", "0 2 2"},
		{"0 1 2", "0 1 1/2"},
		{"5 -1 3/4", "5 -1 3"},
		{"1 1 3/2", "1 1 3/5"},
		{"1 1 2/3", "1 1 5/3"},
		{"1 1 " + nines(40), "1 1 1" + zeros(39) + "1"},
	} {
		if got, e := point.Make(rootFrom(x[0]), rootFrom(x[1])); e != api.ErrInvalid || !same(got, api.Point{}) {
			t.Errorf("P7.1: Make of %v: got %v, %v", x, got, e)
		}
	}
}

func TestMakeAndCoordinates(t *testing.T) {
	for _, p := range places() {
		x, y := rootOf(p.x()), rootOf(p.y())
		if got := point.X(pointOf(p)); !sameRoot(got, x) {
			t.Fatalf("P7.1: X of %v: got %v, want %v", p, got, x)
		}
		if got := point.Y(pointOf(p)); !sameRoot(got, y) {
			t.Fatalf("P7.1: Y of %v: got %v, want %v", p, got, y)
		}
		got, e := point.Make(x, y)
		if e != api.OK {
			t.Fatalf("P7.1: Make of %v: %v", p, e)
		}
		check(t, got, p, "Make", p)
	}
}

func TestCoordinateExamples(t *testing.T) {
	for s, want := range map[string][2]string{
		"1 1 3 0 2":      {"1 1 2", "3 0 0"},
		"3 0 1 1 2":      {"3 0 0", "1 1 2"},
		"0 -1/2 0 5 8":   {"0 -1/2 8", "0 5 8"},
		"-4/3 0 0 0 0":   {"-4/3 0 0", "0 0 0"},
		"0 0 0 1 3/4":    {"0 0 0", "0 1 3/4"},
		"1/2 -1 1/2 1 3": {"1/2 -1 3", "1/2 1 3"},
	} {
		p := pointFrom(s)
		if x, y := point.X(p), point.Y(p); !sameRoot(x, rootFrom(want[0])) || !sameRoot(y, rootFrom(want[1])) {
			t.Errorf("P7.1: the coordinates of %s: got %v, %v", s, x, y)
		}
	}
}

func TestValid(t *testing.T) {
	for _, s := range []string{"0 0 0 0 0", "1/2 0 -7 0 0", "1 1 3 0 2", "3 0 1 1 2", "0 1 0 1 8", "0 2 0 2 2", "0 1 0 0 1/2", "0 0 0 -1 3/4", "0 1 0 1 2/9", "0 1 0 1 9/2", "0 1 0 1 " + nines(18), "0 1 0 1 1/" + nines(30)} {
		if !point.Valid(pointFrom(s)) {
			t.Errorf("P7.1: Valid of %s: got false", s)
		}
	}
	for _, p := range places() {
		if !point.Valid(pointOf(p)) {
			t.Errorf("P7.1: Valid of %v: got false", p)
		}
	}
	for _, s := range []string{"0 0 0 0 1", "0 0 0 0 2", "1 0 1 0 -2", "1 0 1 0 4", "1 0 1 0 1/2", "0 1 0 0 0", "0 0 0 1 0", "0 1 0 1 0", "0 1 0 1 1", "0 1 0 0 4", "0 0 0 1 9/4", "0 1 0 1 1/16", "0 1 0 1 -1", "0 1 0 0 -2", "0 0 0 1 -3/4", "0 1 0 1 1" + zeros(40), "0 1 0 1 -" + nines(30)} {
		f := numbers(s)
		p := api.Point{AX: ratOf(f[0]), BX: ratOf(f[1]), AY: ratOf(f[2]), BY: ratOf(f[3]), C: ratOf(f[4])}
		if point.Valid(p) {
			t.Errorf("P7.1: Valid of %s: got true", s)
		}
	}
}

// invalidNumbers returns numbers that are not valid.
func invalidNumbers() []api.Rat {
	small := func(n ...uint32) api.Int { return api.Int{Limbs: n} }
	return []api.Rat{
		{},
		{Num: small(1)},
		{Den: small(2)},
		{Num: small(2), Den: small(4)},
		{Num: small(2), Den: small(2)},
		{Num: small(3), Den: api.Int{Neg: true, Limbs: []uint32{1}}},
		{Num: api.Int{Neg: true}, Den: small(1)},
		{Num: small(1000000000), Den: small(1)},
		{Num: small(2, 0), Den: small(1)},
		{Num: small(3), Den: small(math.MaxUint32)},
		{Num: small(3), Den: small(1, 0)},
		{Num: small(0), Den: small(1)},
	}
}

func TestValidOfInvalidNumbers(t *testing.T) {
	if point.Valid(api.Point{}) {
		t.Error("P7.1: Valid of the zero value: got true")
	}
	for _, s := range []string{"0 0 0 0 0", "1 1 3 0 2", "3 0 1 1 2", "1/2 -1 0 1 3/4"} {
		for _, a := range invalidNumbers() {
			for i := range 5 {
				p := pointFrom(s)
				*[]*api.Rat{&p.AX, &p.BX, &p.AY, &p.BY, &p.C}[i] = a
				if point.Valid(p) {
					t.Errorf("P7.1: Valid of %s with %v in field %d: got true", s, a, i)
				}
			}
		}
	}
}

func TestRational(t *testing.T) {
	for _, v := range vectors() {
		if got, ok := point.Rational(point.At(vecOf(v))); !ok || !sameVec(got, vecOf(v)) {
			t.Fatalf("P7.1: Rational of %v: got %v, %v", v, got, ok)
		}
	}
	for _, p := range places() {
		want := api.Vec{}
		if p.isRational() {
			want = vecOf(vec{p.ax, p.ay})
		}
		if got, ok := point.Rational(pointOf(p)); ok != p.isRational() || !sameVec(got, want) {
			t.Fatalf("P7.1: Rational of %v: got %v, %v", p, got, ok)
		}
	}
	for _, s := range []string{"1 1 3 0 2", "3 0 1 1 2", "0 1 0 -1 3/4"} {
		if got, ok := point.Rational(pointFrom(s)); ok || !sameVec(got, api.Vec{}) {
			t.Errorf("P7.1: Rational of %s: got %v, %v", s, got, ok)
		}
	}
}
