package root_test

import (
	"math/big"
	"math/rand"
	"testing"

	"swarf/api"
	"swarf/root"
)

// make3 calls Make for a text of a, b and c.
func make3(s string) (api.Root, api.Errno) {
	v := parse(s)
	return root.Make(ratOf(v.a), ratOf(v.b), ratOf(v.c))
}

func TestMakeExamples(t *testing.T) {
	for _, x := range [][2]string{
		{"1 2 9/4", "4 0 0"},
		{"0 1 8", "0 1 8"},
		{"0 2 2", "0 2 2"},
		{"1 -2 9/4", "-2 0 0"},
		{"-1/2 1/3 9/4", "0 0 0"},
		{"5 0 3", "5 0 0"},
		{"5 0 4", "5 0 0"},
		{"5 0 0", "5 0 0"},
		{"5 3 0", "5 0 0"},
		{"0 0 0", "0 0 0"},
		{"0 -1 2", "0 -1 2"},
		{"1/2 3 1", "7/2 0 0"},
		{"1 1 4/3", "1 1 4/3"},
		{"1 1 3/4", "1 1 3/4"},
		{"1 1 8/2", "3 0 0"},
		{"1 1 8/18", "5/3 0 0"},
		{"1 1 1/2", "1 1 1/2"},
		{"2 3 1000000000000000000", "3000000002 0 0"},
		{"2 3 999999999999999999", "2 3 999999999999999999"},
		{"2 -1 1/1000000000000000000", "1999999999/1000000000 0 0"},
	} {
		got, e := make3(x[0])
		if e != api.OK || !same(got, rootFrom(x[1])) || !root.Valid(got) {
			t.Errorf("P3.1: Make of %s: got %v, %v", x[0], got, e)
		}
	}
}

func TestMakeFails(t *testing.T) {
	for _, s := range []string{"1 2 -1", "1 2 -9/4", "0 0 -1", "1 0 -4", "1 0 -1/3", "0 -1 -8", "7 1 -" + nines(40), "1 1 -1/" + nines(40)} {
		if got, e := make3(s); e != api.ErrNegative || !same(got, api.Root{}) {
			t.Errorf("P3.1: Make of %s: got %v, %v", s, got, e)
		}
	}
}

func TestMake(t *testing.T) {
	forAll(func(v value) {
		got, e := root.Make(ratOf(v.a), ratOf(v.b), ratOf(v.c))
		if e != api.OK {
			t.Fatalf("P3.1: Make of %v: %v", v, e)
		}
		check(t, got, v, "Make", v)
	})
	r := rand.New(rand.NewSource(3))
	for i := range 500 {
		a, b, c := randomRat(r, 1+i/10), randomRat(r, 1+i/10), randomRat(r, 1+i/10)
		got, e := root.Make(ratOf(a), ratOf(b), ratOf(mul(c, c)))
		if e != api.OK {
			t.Fatalf("P3.1: Make of %v, %v and the square of %v: %v", a, b, c, e)
		}
		check(t, got, value{add(a, mul(b, c.Abs(c))), new(big.Rat), nil}, "Make", value{a, b, mul(c, c)})
	}
}

func TestFromRat(t *testing.T) {
	forAll(func(v value) {
		plain := value{v.a, new(big.Rat), nil}
		check(t, root.FromRat(ratOf(v.a)), plain, "FromRat", plain)
	})
}

func TestValid(t *testing.T) {
	forAll(func(v value) {
		if !root.Valid(rootOf(v)) {
			t.Fatalf("P3.1: %v is in reduced form", v)
		}
	})
	rat := func(s string) api.Rat { return ratOf(number(s)) }
	zero, one, two := rat("0"), rat("1"), rat("2")
	limbs := func(num, den uint32) api.Rat {
		return api.Rat{Num: api.Int{Limbs: []uint32{num}}, Den: api.Int{Limbs: []uint32{den}}}
	}
	list := []api.Root{
		{},
		{A: one},
		{A: one, B: zero},
		{A: one, B: one},
		{B: zero, C: zero},
		{B: one, C: two},
		{A: one, C: zero},
		{A: one, C: two},
		{A: one, B: zero, C: two},
		{A: one, B: zero, C: one},
		{A: one, B: zero, C: rat("-2")},
		{A: one, B: one, C: zero},
		{A: one, B: one, C: one},
		{A: one, B: one, C: rat("4")},
		{A: one, B: one, C: rat("9/4")},
		{A: zero, B: rat("-1"), C: rat("1/" + "1" + zeros(40))},
		{A: one, B: one, C: rat("-2")},
		{A: one, B: one, C: rat("-4")},
		{A: one, B: rat("-1/3"), C: rat("-1/2")},
	}
	for _, bad := range []api.Rat{limbs(2, 4), limbs(6, 3), limbs(0, 1), limbs(1, 0), limbs(1000000000, 1), {Num: one.Num, Den: rat("-3").Num}, {Num: api.Int{Neg: true}, Den: one.Num}, {Num: one.Num}} {
		list = append(list, api.Root{A: bad, B: one, C: two}, api.Root{A: one, B: bad, C: two}, api.Root{A: one, B: one, C: bad}, api.Root{A: bad, B: zero, C: zero}, api.Root{A: one, B: bad, C: zero}, api.Root{A: one, B: zero, C: bad})
	}
	for _, r := range list {
		if root.Valid(r) {
			t.Errorf("P3.1: %v is not in reduced form", r)
		}
	}
}

func TestRational(t *testing.T) {
	forAll(func(v value) {
		got, ok := root.Rational(rootOf(v))
		if v.b.Sign() == 0 && (!ok || !sameRat(got, ratOf(v.a))) || v.b.Sign() != 0 && (ok || !sameRat(got, api.Rat{})) {
			t.Fatalf("P3.1: Rational of %v: got %v, %v", v, got, ok)
		}
	})
}
