package filter_test

import (
	"math/big"
	"math/rand"
	"testing"

	"swarf/filter"
)

// contains reports whether an interval contains a number.
func contains(a filter.Interval, x *big.Rat) bool {
	return end(a.Low).Cmp(x) <= 0 && x.Cmp(end(a.High)) <= 0
}

// members returns numbers of an interval: both ends, and numbers in between.
func members(a filter.Interval, r *rand.Rand) []*big.Rat {
	low, high := end(a.Low), end(a.High)
	list := []*big.Rat{low, high}
	for range 2 {
		list = append(list, add(low, mul(sub(high, low), big.NewRat(r.Int63n(1001), 1000))))
	}
	return list
}

// part returns an interval that is a part of a.
func part(a filter.Interval, r *rand.Rand) filter.Interval {
	width := a.High - a.Low
	low := a.Low + r.Int63n(width+1)
	high := a.High - r.Int63n(a.High-low+1)
	switch r.Intn(4) {
	case 0:
		return filter.Interval{Low: low, High: a.High}
	case 1:
		return filter.Interval{Low: a.Low, High: high}
	}
	return filter.Interval{Low: low, High: high}
}

// within reports whether an interval is a part of another one.
func within(a, b filter.Interval) bool { return b.Low <= a.Low && a.High <= b.High }

func TestResultsContainSumsAndProducts(t *testing.T) {
	all := intervals()
	r := rand.New(rand.NewSource(7))
	for range 5000 {
		a, b := all[r.Intn(len(all))], all[r.Intn(len(all))]
		sum, sumOK := filter.Add(a, b)
		product, productOK := filter.Mul(a, b)
		opposite := filter.Neg(a)
		for _, x := range members(a, r) {
			if !contains(opposite, new(big.Rat).Neg(x)) {
				t.Fatalf("P4.2: the opposite %v of %v does not contain that of %v", opposite, a, x)
			}
			for _, y := range members(b, r) {
				if sumOK && !contains(sum, add(x, y)) {
					t.Fatalf("P4.2: the sum %v of %v and %v does not contain that of %v and %v", sum, a, b, x, y)
				}
				if productOK && !contains(product, mul(x, y)) {
					t.Fatalf("P4.2: the product %v of %v and %v does not contain that of %v and %v", product, a, b, x, y)
				}
			}
		}
	}
}

func TestResultsContainRoots(t *testing.T) {
	r := rand.New(rand.NewSource(8))
	for _, a := range intervals() {
		roots, ok := filter.Sqrt(a)
		if !ok {
			continue
		}
		low, high := end(roots.Low), end(roots.High)
		for _, x := range members(a, r) {
			if x.Sign() >= 0 && (mul(low, low).Cmp(x) > 0 || mul(high, high).Cmp(x) < 0 || low.Sign() < 0) {
				t.Fatalf("P4.2: the roots %v of %v do not contain that of %v", roots, a, x)
			}
		}
	}
}

func TestRootContainsTheValue(t *testing.T) {
	decided := 0
	for _, v := range values() {
		got, ok := filter.Root(rootOf(v))
		if !ok || v.c.Sign() < 0 {
			continue
		}
		if v.cmp(end(got.Low)) < 0 || v.cmp(end(got.High)) > 0 {
			t.Fatalf("P4.2: %v does not contain %v", got, v)
		}
		if sign, known := filter.Sign(got); known {
			decided++
			if sign != v.sign() {
				t.Fatalf("P4.2: the sign of %v: got %d", v, sign)
			}
		}
	}
	if decided < 500 {
		t.Errorf("P4.2: only %d signs of roots are known", decided)
	}
}

func TestSidesAreExact(t *testing.T) {
	decided := 0
	for _, p := range places() {
		if got, ok := filter.Side(p.line(), p.point()); ok {
			decided++
			if got != p.exact() {
				t.Fatalf("P4.2: Side of %v: got %d", p, got)
			}
		}
	}
	if decided < 500 {
		t.Errorf("P4.2: only %d sides are known", decided)
	}
}

func TestParts(t *testing.T) {
	all := intervals()
	r := rand.New(rand.NewSource(9))
	for range 50000 {
		a, b := all[r.Intn(len(all))], all[r.Intn(len(all))]
		c, d := part(a, r), part(b, r)
		if sum, ok := filter.Add(a, b); ok {
			if got, ok := filter.Add(c, d); !ok || !within(got, sum) {
				t.Fatalf("P4.2: Add of %v and %v, parts of %v and %v: got %v, %v", c, d, a, b, got, ok)
			}
		}
		if product, ok := filter.Mul(a, b); ok {
			if got, ok := filter.Mul(c, d); !ok || !within(got, product) {
				t.Fatalf("P4.2: Mul of %v and %v, parts of %v and %v: got %v, %v", c, d, a, b, got, ok)
			}
		}
		if roots, ok := filter.Sqrt(a); ok && c.High >= 0 {
			if got, ok := filter.Sqrt(c); !ok || !within(got, roots) {
				t.Fatalf("P4.2: Sqrt of %v, a part of %v: got %v, %v", c, a, got, ok)
			}
		}
		if !within(filter.Neg(c), filter.Neg(a)) {
			t.Fatalf("P4.2: Neg of %v, a part of %v: got %v", c, a, filter.Neg(c))
		}
		if sign, ok := filter.Sign(a); ok {
			if got, ok := filter.Sign(c); !ok || got != sign {
				t.Fatalf("P4.2: Sign of %v, a part of %v: got %d, %v", c, a, got, ok)
			}
		}
	}
}
