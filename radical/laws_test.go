package radical_test

import (
	"math/big"
	"math/rand"
	"slices"
	"testing"

	"swarf/api"
	"swarf/radical"
	"swarf/rational"
	"swarf/root"
)

// triples calls f for triples of values, many of which are equal or near to one another.
func triples(f func(u, v, w value)) {
	all := values()
	r := rand.New(rand.NewSource(8))
	for range 6000 {
		i := r.Intn(len(all))
		near := func() value { return all[min(len(all)-1, i+r.Intn(4))] }
		f(near(), near(), near())
		f(near(), all[r.Intn(len(all))], all[r.Intn(len(all))])
	}
}

func TestLinearOrder(t *testing.T) {
	triples(func(u, v, w value) {
		a, b, c := rootOf(u), rootOf(v), rootOf(w)
		order := radical.Cmp(a, b)
		if order != -radical.Cmp(b, a) || radical.Cmp(a, a) != 0 || radical.Equal(a, b) != radical.Equal(b, a) {
			t.Fatalf("P5.2: the order of %v and %v depends on their positions", u, v)
		}
		if next := radical.Cmp(b, c); order <= 0 && next <= 0 && radical.Cmp(a, c) != min(order, next) {
			t.Fatalf("P5.2: the order of %v, %v and %v is not linear", u, v, w)
		}
		if radical.Equal(a, b) && radical.Cmp(a, c) != radical.Cmp(b, c) {
			t.Fatalf("P5.2: %v and %v are equal, but %v is not on the same side of them", u, v, w)
		}
	})
}

func TestOrderOfSumsAndProducts(t *testing.T) {
	triples(func(u, v, w value) {
		a, b := rootOf(u), rootOf(v)
		order := radical.Cmp(a, b)
		shift := root.FromRat(ratOf(w.a))
		left, _ := root.Add(a, shift)
		right, _ := root.Add(b, shift)
		if got := radical.Cmp(left, right); got != order {
			t.Fatalf("P5.2: %v and %v, with %v added: got %d", u, v, w.a, got)
		}
		if got := radical.Cmp(root.Scale(a, ratOf(w.b)), root.Scale(b, ratOf(w.b))); got != order*w.b.Sign() {
			t.Fatalf("P5.2: %v and %v times %v: got %d", u, v, w.b, got)
		}
		if got := radical.Cmp(root.Neg(b), root.Neg(a)); got != order {
			t.Fatalf("P5.2: the opposite numbers of %v and %v: got %d", u, v, got)
		}
	})
}

// products returns sums with the value of q times f, also with the square roots exchanged, and times sqrt(m) or sqrt(n).
func products(q quad, f *big.Rat) []quad {
	return []quad{
		{mul(q.a, f), mul(q.b, f), mul(q.c, f), mul(q.d, f), q.m, q.n},
		{mul(q.a, f), mul(q.c, f), mul(q.b, f), mul(q.d, f), q.n, q.m},
		{mul(q.b, mul(q.m, f)), mul(q.a, f), mul(q.d, mul(q.m, f)), mul(q.c, f), q.m, q.n},
		{mul(q.c, mul(q.n, f)), mul(q.d, mul(q.n, f)), mul(q.a, f), mul(q.b, f), q.m, q.n},
	}
}

func TestSignsOfProducts(t *testing.T) {
	triples(func(u, v, w value) {
		q := quad{u.a, u.b, v.b, v.a, u.c, w.c}
		if q.m.Sign() == 0 || q.n.Sign() == 0 {
			return
		}
		sign := radical.Sign(quadOf(q)) * w.a.Sign()
		for i, x := range products(q, w.a) {
			if got := radical.Sign(quadOf(x)); got != sign {
				t.Fatalf("P5.2: the sign of product %d of %v and %v: got %d", i, q, w.a, got)
			}
		}
	})
}

// sqrt(M) sqrt(N) is the square root of M N: a sum does not change if the product becomes the second root.
func TestProductsOfRoots(t *testing.T) {
	triples(func(u, v, w value) {
		m, n := u.c, v.c
		q := quad{u.a, u.b, zero(), v.b, m, n}
		sign := radical.Sign(quadOf(q))
		if got := radical.Sign(quadOf(quad{u.a, u.b, v.b, zero(), m, mul(m, n)})); got != sign {
			t.Fatalf("P5.2: the sign of %v with sqrt(M N): got %d", q, got)
		}
		product, e := root.Make(ratOf(neg(u.a)), ratOf(neg(v.b)), ratOf(mul(m, n)))
		first, _ := root.Make(ratOf(zero()), ratOf(u.b), ratOf(m))
		if got := radical.Cmp(first, product); e != api.OK || got != sign {
			t.Fatalf("P5.2: the sign of %v as that of two roots: got %d", q, got)
		}
		for _, x := range []quad{{zero(), zero(), neg(one()), one(), m, n}, {zero(), neg(one()), zero(), one(), m, n}} {
			// (sqrt(m) - 1) sqrt(n) and sqrt(m) (sqrt(n) - 1)
			want := m.Cmp(one()) * n.Sign()
			if x.b.Sign() != 0 {
				want = n.Cmp(one()) * m.Sign()
			}
			if got := radical.Sign(quadOf(x)); got != want {
				t.Fatalf("P5.2: the sign of %v: got %d", x, got)
			}
		}
		if got := radical.Sign(quadOf(quad{neg(mul(m, n)), zero(), zero(), one(), mul(m, n), mul(m, n)})); got != 0 {
			t.Fatalf("P5.2: the product of two roots of %v is not this number: got %d", mul(m, n), got)
		}
	})
}

func TestBetweenLiesBetween(t *testing.T) {
	triples(func(u, v, w value) {
		a, b := rootOf(u), rootOf(v)
		x, e := radical.Between(a, b)
		if (e == api.OK) != (radical.Cmp(a, b) < 0) {
			t.Fatalf("P5.2: Between of %v and %v: %v", u, v, e)
		}
		if e == api.OK && (radical.CmpRat(a, x) >= 0 || radical.CmpRat(b, x) <= 0 || radical.Cmp(root.FromRat(x), a) <= 0) {
			t.Fatalf("P5.2: %s is not between %v and %v", rational.Format(x), u, v)
		}
	})
}

func TestSortedPositions(t *testing.T) {
	r := rand.New(rand.NewSource(9))
	list := rootsOf(values())
	for range 10 {
		r.Shuffle(len(list), func(i, j int) { list[i], list[j] = list[j], list[i] })
		got := radical.Sort(list)
		for k := 1; k < len(got); k++ {
			order := radical.Cmp(list[got[k-1]], list[got[k]])
			if order > 0 || order == 0 && got[k-1] > got[k] {
				t.Fatalf("P5.2: the positions %d and %d are not in order", got[k-1], got[k])
			}
		}
		slices.Sort(got)
		for k, i := range got {
			if k != i {
				t.Fatalf("P5.2: position %d is missing", k)
			}
		}
	}
}

// sqrt(d) is the greatest of the distances that Sum allows exactly where the sum has no negative sign.
func TestSumIsMonotone(t *testing.T) {
	r := rand.New(rand.NewSource(10))
	sum := func(d, p, q, s api.Rat) int {
		sign, e := radical.Sum(d, p, q, s)
		if e != api.OK {
			t.Fatalf("P5.2: Sum: %v", e)
		}
		return sign
	}
	for i := range 3000 {
		digits := 1 + i/300
		d, p, q, s := ratOf(randomPositive(r, digits)), ratOf(randomPositive(r, digits)), ratOf(randomPositive(r, digits)), ratOf(randomPositive(r, digits))
		sign, more := sum(d, p, q, s), ratOf(randomPositive(r, 3))
		if sum(d, q, p, s) != sign {
			t.Fatalf("P5.2: Sum depends on the order of %v and %v", p, q)
		}
		if sum(rational.Add(d, more), p, q, s) < sign || sum(d, rational.Add(p, more), q, s) > sign || sum(d, p, q, rational.Add(s, more)) > sign {
			t.Fatalf("P5.2: Sum does not grow with its first argument, or grows with another one: %v, %v, %v, %v", d, p, q, s)
		}
		// The four roots with the squared factors keep the sign.
		square := rational.Mul(more, more)
		if sum(rational.Mul(d, square), rational.Mul(p, square), rational.Mul(q, square), rational.Mul(s, more)) != sign {
			t.Fatalf("P5.2: Sum of multiples of %v, %v, %v, %v", d, p, q, s)
		}
	}
}
