package integer_test

import (
	"math/rand"
	"testing"

	"swarf/api"
	"swarf/integer"
)

// triples calls f for triples of integers of different lengths.
func triples(f func(a, b, c api.Int)) {
	var small []api.Int
	for _, n := range []int64{0, 1, -1, 2, -3, 999999999, -1000000000, 1000000001, 1000000000000000000} {
		small = append(small, integer.FromInt64(n))
	}
	for _, a := range small {
		for _, b := range small {
			for _, c := range small {
				f(a, b, c)
			}
		}
	}
	r := rand.New(rand.NewSource(9))
	for range 2000 {
		f(fromBig(randomBig(r, 25)), fromBig(randomBig(r, 10)), fromBig(randomBig(r, 15)))
	}
}

func TestRing(t *testing.T) {
	zero, one := integer.FromInt64(0), integer.FromInt64(1)
	triples(func(a, b, c api.Int) {
		for i, x := range [][2]api.Int{
			{integer.Add(a, b), integer.Add(b, a)},
			{integer.Add(integer.Add(a, b), c), integer.Add(a, integer.Add(b, c))},
			{integer.Add(a, zero), a},
			{integer.Add(a, integer.Neg(a)), zero},
			{integer.Sub(a, b), integer.Add(a, integer.Neg(b))},
			{integer.Mul(a, b), integer.Mul(b, a)},
			{integer.Mul(integer.Mul(a, b), c), integer.Mul(a, integer.Mul(b, c))},
			{integer.Mul(a, one), a},
			{integer.Mul(a, integer.Add(b, c)), integer.Add(integer.Mul(a, b), integer.Mul(a, c))},
		} {
			if !same(x[0], x[1]) {
				t.Fatalf("P1.2: law %d of the ring: %v, %v, %v", i, a, b, c)
			}
		}
	})
}

func TestOrder(t *testing.T) {
	triples(func(a, b, c api.Int) {
		order := integer.Cmp(a, b)
		if order != -integer.Cmp(b, a) || order != integer.Sign(integer.Sub(a, b)) || (order == 0) != same(a, b) {
			t.Fatalf("P1.2: the order is not total: %v, %v", a, b)
		}
		if order <= 0 && integer.Cmp(b, c) <= 0 && integer.Cmp(a, c) > 0 {
			t.Fatalf("P1.2: the order is not transitive: %v, %v, %v", a, b, c)
		}
		if integer.Cmp(integer.Add(a, c), integer.Add(b, c)) != order {
			t.Fatalf("P1.2: sums do not keep the order: %v, %v, %v", a, b, c)
		}
		if integer.Cmp(integer.Mul(a, c), integer.Mul(b, c)) != order*integer.Sign(c) {
			t.Fatalf("P1.2: products do not keep the order: %v, %v, %v", a, b, c)
		}
	})
}

func TestDivModRestores(t *testing.T) {
	triples(func(a, b, c api.Int) {
		if integer.Sign(b) == 0 {
			return
		}
		q, r, e := integer.DivMod(a, b)
		if e != api.OK || !same(integer.Add(integer.Mul(q, b), r), a) {
			t.Fatalf("P1.2: q b + r is not a: %v, %v", a, b)
		}
		if s := integer.Sign(r); s != 0 && s != integer.Sign(b) || integer.Cmp(integer.Mul(r, r), integer.Mul(b, b)) >= 0 {
			t.Fatalf("P1.2: the remainder of %v and %v: %v", a, b, r)
		}
	})
}

func TestTextsRestore(t *testing.T) {
	texts := map[string]api.Int{}
	for _, x := range samples() {
		a := fromBig(x)
		s := integer.Format(a)
		if b, e := integer.Parse(s); e != api.OK || !same(a, b) {
			t.Errorf("P1.2: Parse does not restore %v", x)
		}
		if b, ok := texts[s]; ok && !same(a, b) {
			t.Errorf("P1.2: two integers have the text %s", s)
		}
		texts[s] = a
	}
}
