package root_test

import (
	"math/big"
	"math/rand"
	"testing"

	"swarf/api"
	"swarf/integer"
	"swarf/root"
)

// sumOf and productOf are Add and Mul of roots with a common radicand.
func sumOf(t *testing.T, r, s api.Root) api.Root {
	t.Helper()
	got, e := root.Add(r, s)
	if e != api.OK || !root.Valid(got) {
		t.Fatalf("P3.2: Add of %v and %v: got %v, %v", r, s, got, e)
	}
	return got
}
func productOf(t *testing.T, r, s api.Root) api.Root {
	t.Helper()
	got, e := root.Mul(r, s)
	if e != api.OK || !root.Valid(got) {
		t.Fatalf("P3.2: Mul of %v and %v: got %v, %v", r, s, got, e)
	}
	return got
}

// triples calls f for triples of roots with a common radicand.
func triples(f func(r, s, u api.Root)) {
	random := rand.New(rand.NewSource(6))
	for _, c := range radicands() {
		var small []api.Root
		for _, a := range []string{"0", "1", "-3/2"} {
			for _, b := range []string{"0", "1", "-1", "2/3"} {
				small = append(small, rootOf(value{number(a), number(b), c}))
			}
		}
		for _, r := range small {
			for _, s := range small {
				f(r, s, small[random.Intn(len(small))])
			}
		}
		for i := range 60 {
			f(rootOf(randomValue(random, 1+i/2, c)), rootOf(randomValue(random, 1+i/3, c)), rootOf(randomValue(random, 20, c)))
		}
	}
}

// With one radicand, each number has exactly one form, and so equal values have the same form.
func TestField(t *testing.T) {
	zero, one := rootFrom("0 0 0"), rootFrom("1 0 0")
	triples(func(r, s, u api.Root) {
		plus := func(x, y api.Root) api.Root { return sumOf(t, x, y) }
		times := func(x, y api.Root) api.Root { return productOf(t, x, y) }
		for i, x := range [][2]api.Root{
			{plus(r, s), plus(s, r)},
			{plus(plus(r, s), u), plus(r, plus(s, u))},
			{plus(r, zero), r},
			{plus(r, root.Neg(r)), zero},
			{times(r, s), times(s, r)},
			{times(times(r, s), u), times(r, times(s, u))},
			{times(r, one), r},
			{times(r, zero), zero},
			{times(r, plus(s, u)), plus(times(r, s), times(r, u))},
			{times(plus(r, s), u), plus(times(r, u), times(s, u))},
			{times(r, root.Neg(s)), root.Neg(times(r, s))},
			{root.Scale(r, s.A), times(r, root.FromRat(s.A))},
		} {
			if !same(x[0], x[1]) {
				t.Fatalf("P3.2: law %d of the field: %v, %v, %v", i, r, s, u)
			}
		}
	})
}

func TestInverses(t *testing.T) {
	zero, one := rootFrom("0 0 0"), rootFrom("1 0 0")
	triples(func(r, s, _ api.Root) {
		if same(r, zero) {
			return
		}
		inverse, e := root.Inv(r)
		if e != api.OK || !same(productOf(t, r, inverse), one) {
			t.Fatalf("P3.2: the inverse of %v: got %v, %v", r, inverse, e)
		}
		if !same(productOf(t, productOf(t, s, inverse), r), s) {
			t.Fatalf("P3.2: the quotient of %v and %v", s, r)
		}
		if back, e := root.Inv(inverse); e != api.OK || !same(back, r) {
			t.Fatalf("P3.2: the inverse of the inverse of %v: got %v, %v", r, back, e)
		}
	})
}

func TestSigns(t *testing.T) {
	zero := rootFrom("0 0 0")
	triples(func(r, s, u api.Root) {
		sign := root.Sign(r)
		if root.Sign(productOf(t, r, s)) != sign*root.Sign(s) {
			t.Fatalf("P3.2: the sign of the product of %v and %v", r, s)
		}
		if root.Sign(root.Neg(r)) != -sign || (sign == 0) != same(r, zero) {
			t.Fatalf("P3.2: the sign of %v", r)
		}
		if sign >= 0 && root.Sign(s) >= 0 && root.Sign(sumOf(t, r, s)) != max(sign, root.Sign(s)) {
			t.Fatalf("P3.2: the sign of the sum of %v and %v", r, s)
		}
	})
}

// checkFloorLaw compares a root with its floor, and with the next integer.
func checkFloorLaw(t *testing.T, r api.Root) {
	t.Helper()
	floor := root.Floor(r)
	if !integer.Valid(floor) {
		t.Fatalf("P3.2: Floor of %v: got %v", r, floor)
	}
	below := new(big.Rat).SetInt(bigOf(floor))
	above := add(below, big.NewRat(1, 1))
	if root.Sign(sumOf(t, r, root.FromRat(ratOf(neg(below))))) < 0 || root.Sign(sumOf(t, r, root.FromRat(ratOf(neg(above))))) >= 0 {
		t.Fatalf("P3.2: %v is not from its floor %v to %v", r, below, above)
	}
}

func TestFloorLaw(t *testing.T) {
	triples(func(r, s, u api.Root) {
		checkFloorLaw(t, productOf(t, r, s))
		checkFloorLaw(t, u)
	})
	for _, v := range convergents() {
		checkFloorLaw(t, rootOf(v))
	}
}
