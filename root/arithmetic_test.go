package root_test

import (
	"math/big"
	"testing"

	"swarf/api"
	"swarf/root"
)

func TestNegAndScale(t *testing.T) {
	forAll(func(v value) {
		check(t, root.Neg(rootOf(v)), value{neg(v.a), neg(v.b), v.c}, "Neg", v)
		for _, s := range []string{"0", "1", "-1", "3/2", "-2/9", "1000000000", nines(30) + "/1000"} {
			k := number(s)
			check(t, root.Scale(rootOf(v), ratOf(k)), value{mul(v.a, k), mul(v.b, k), v.c}, "Scale by "+s, v)
		}
	})
}

// sum returns v + w, and product their product.
func sum(v, w value) value { return value{add(v.a, w.a), add(v.b, w.b), v.c} }
func product(v, w value) value {
	return value{add(mul(v.a, w.a), mul(mul(v.b, w.b), v.c)), add(mul(v.a, w.b), mul(v.b, w.a)), v.c}
}

func TestAddAndMul(t *testing.T) {
	forPairs(func(v, w value) {
		got, e := root.Add(rootOf(v), rootOf(w))
		if e != api.OK {
			t.Fatalf("P3.1: Add of %v and %v: %v", v, w, e)
		}
		check(t, got, sum(v, w), "Add", v, w)
		got, e = root.Mul(rootOf(v), rootOf(w))
		if e != api.OK {
			t.Fatalf("P3.1: Mul of %v and %v: %v", v, w, e)
		}
		check(t, got, product(v, w), "Mul", v, w)
	})
}

func TestAddAndMulExamples(t *testing.T) {
	for _, x := range [][4]string{
		{"1 1 2", "1 -1 2", "2 0 0", "-1 0 0"},
		{"1 1 2", "-1 -1 2", "0 0 0", "-3 -2 2"},
		{"0 1 8", "0 1 8", "0 2 8", "8 0 0"},
		{"0 1 8", "0 -1/2 8", "0 1/2 8", "-4 0 0"},
		{"3 1 5", "-3 1 5", "0 2 5", "-4 0 0"},
		{"1 2 3", "4 0 0", "5 2 3", "4 8 3"},
		{"4 0 0", "1 2 3", "5 2 3", "4 8 3"},
		{"0 0 0", "1 2 3", "1 2 3", "0 0 0"},
		{"1 2 3", "0 0 0", "1 2 3", "0 0 0"},
		{"-1 0 0", "1 2 3", "0 2 3", "-1 -2 3"},
		{"2 0 0", "-1/2 0 0", "3/2 0 0", "-1 0 0"},
		{"1/2 1/3 2/5", "1/2 -1/3 2/5", "1 0 0", "37/180 0 0"},
	} {
		r, s := rootFrom(x[0]), rootFrom(x[1])
		if got, e := root.Add(r, s); e != api.OK || !same(got, rootFrom(x[2])) {
			t.Errorf("P3.1: Add of %s and %s: got %v, %v", x[0], x[1], got, e)
		}
		if got, e := root.Mul(r, s); e != api.OK || !same(got, rootFrom(x[3])) {
			t.Errorf("P3.1: Mul of %s and %s: got %v, %v", x[0], x[1], got, e)
		}
	}
}

// The radicands are compared as they are: sqrt(8) is 2 sqrt(2), but has another radicand.
func TestNoCommonRadicand(t *testing.T) {
	for _, x := range [][2]string{
		{"0 1 2", "0 1 3"},
		{"0 1 2", "0 1 8"},
		{"0 2 2", "0 -1 8"},
		{"1 1 2", "1 1 1/2"},
		{"1 1 2/3", "1 1 2/5"},
		{"1 1 2/3", "1 1 5/3"},
		{"1 1 " + nines(40), "1 1 " + nines(39) + "8"},
	} {
		r, s := rootFrom(x[0]), rootFrom(x[1])
		for _, p := range [][2]api.Root{{r, s}, {s, r}} {
			if got, e := root.Add(p[0], p[1]); e != api.ErrInvalid || !same(got, api.Root{}) {
				t.Errorf("P3.1: Add of %v: got %v, %v", x, got, e)
			}
			if got, e := root.Mul(p[0], p[1]); e != api.ErrInvalid || !same(got, api.Root{}) {
				t.Errorf("P3.1: Mul of %v: got %v, %v", x, got, e)
			}
		}
	}
}

func TestInvExamples(t *testing.T) {
	for _, x := range [][2]string{
		{"1 1 2", "-1 1 2"},
		{"-1 1 2", "1 1 2"},
		{"3 -2 2", "3 2 2"},
		{"0 1 2", "0 1/2 2"},
		{"0 -3 8", "0 -1/24 8"},
		{"2 0 0", "1/2 0 0"},
		{"-3/4 0 0", "-4/3 0 0"},
		{"1 1 1/2", "2 -2 1/2"},
	} {
		if got, e := root.Inv(rootFrom(x[0])); e != api.OK || !same(got, rootFrom(x[1])) || !root.Valid(got) {
			t.Errorf("P3.1: Inv of %s: got %v, %v", x[0], got, e)
		}
	}
	if got, e := root.Inv(rootFrom("0 0 0")); e != api.ErrZero || !same(got, api.Root{}) {
		t.Errorf("P3.1: Inv of 0: got %v, %v", got, e)
	}
}

func TestInv(t *testing.T) {
	forAll(func(v value) {
		got, e := root.Inv(rootOf(v))
		if v.a.Sign() == 0 && v.b.Sign() == 0 {
			if e != api.ErrZero || !same(got, api.Root{}) {
				t.Fatalf("P3.1: Inv of 0: got %v, %v", got, e)
			}
			return
		}
		if e != api.OK {
			t.Fatalf("P3.1: Inv of %v: %v", v, e)
		}
		conjugate := value{v.a, neg(v.b), v.c}
		k := new(big.Rat).Inv(product(v, conjugate).a)
		check(t, got, value{mul(v.a, k), mul(conjugate.b, k), v.c}, "Inv", v)
	})
}
