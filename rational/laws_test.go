package rational_test

import (
	"math/big"
	"math/rand"
	"testing"

	"swarf/api"
	"swarf/rational"
)

// triples calls f for triples of numbers of different lengths.
func triples(f func(a, b, c api.Rat)) {
	var small []api.Rat
	for _, s := range []string{"0", "1", "-1", "2", "1/2", "-1/2", "2/3", "-5/6", "1000000000/999999999"} {
		small = append(small, ratOf(number(s)))
	}
	for _, a := range small {
		for _, b := range small {
			for _, c := range small {
				f(a, b, c)
			}
		}
	}
	r := rand.New(rand.NewSource(5))
	for range 1000 {
		f(ratOf(randomRat(r, 50)), ratOf(randomRat(r, 20)), ratOf(randomRat(r, 30)))
	}
}

func TestField(t *testing.T) {
	zero, one := rational.FromInt64(0), rational.FromInt64(1)
	triples(func(a, b, c api.Rat) {
		for i, x := range [][2]api.Rat{
			{rational.Add(a, b), rational.Add(b, a)},
			{rational.Add(rational.Add(a, b), c), rational.Add(a, rational.Add(b, c))},
			{rational.Add(a, zero), a},
			{rational.Add(a, rational.Neg(a)), zero},
			{rational.Sub(a, b), rational.Add(a, rational.Neg(b))},
			{rational.Mul(a, b), rational.Mul(b, a)},
			{rational.Mul(rational.Mul(a, b), c), rational.Mul(a, rational.Mul(b, c))},
			{rational.Mul(a, one), a},
			{rational.Mul(a, rational.Add(b, c)), rational.Add(rational.Mul(a, b), rational.Mul(a, c))},
		} {
			if !same(x[0], x[1]) {
				t.Fatalf("P2.2: law %d of the field: %v, %v, %v", i, a, b, c)
			}
		}
	})
}

func TestInverses(t *testing.T) {
	one := rational.FromInt64(1)
	triples(func(a, b, c api.Rat) {
		if rational.Sign(b) == 0 {
			return
		}
		inverse, e := rational.Div(one, b)
		if e != api.OK || !same(rational.Mul(b, inverse), one) {
			t.Fatalf("P2.2: the inverse of %v: got %v, %v", b, inverse, e)
		}
		quotient, e := rational.Div(a, b)
		if e != api.OK || !same(rational.Mul(quotient, b), a) || !same(rational.Mul(a, inverse), quotient) {
			t.Fatalf("P2.2: the quotient of %v and %v: got %v, %v", a, b, quotient, e)
		}
	})
}

func TestOrder(t *testing.T) {
	triples(func(a, b, c api.Rat) {
		order := rational.Cmp(a, b)
		if order != -rational.Cmp(b, a) || order != rational.Sign(rational.Sub(a, b)) || (order == 0) != same(a, b) {
			t.Fatalf("P2.2: the order is not total: %v, %v", a, b)
		}
		if order <= 0 && rational.Cmp(b, c) <= 0 && rational.Cmp(a, c) > 0 {
			t.Fatalf("P2.2: the order is not transitive: %v, %v, %v", a, b, c)
		}
		if rational.Cmp(rational.Add(a, c), rational.Add(b, c)) != order {
			t.Fatalf("P2.2: sums do not keep the order: %v, %v, %v", a, b, c)
		}
		if rational.Cmp(rational.Mul(a, c), rational.Mul(b, c)) != order*rational.Sign(c) {
			t.Fatalf("P2.2: products do not keep the order: %v, %v, %v", a, b, c)
		}
	})
}

func TestTextsRestore(t *testing.T) {
	texts := map[string]api.Rat{}
	restore := func(x *big.Rat) {
		a := ratOf(x)
		s := rational.Format(a)
		if b, e := rational.Parse(s); e != api.OK || !same(a, b) {
			t.Errorf("P2.2: Parse does not restore %v", x)
		}
		if b, ok := texts[s]; ok && !same(a, b) {
			t.Errorf("P2.2: two numbers have the text %s", s)
		}
		texts[s] = a
	}
	for _, x := range samples() {
		restore(x)
	}
	for den := int64(1); den < 40; den++ {
		for num := int64(-60); num <= 60; num++ {
			restore(big.NewRat(num, den))
		}
	}
}
