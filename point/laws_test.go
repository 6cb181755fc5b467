package point_test

import (
	"math/rand"
	"slices"
	"testing"

	"swarf/api"
	"swarf/point"
	"swarf/radical"
	"swarf/root"
)

// triples calls f for triples of places, many of which are equal or near to one another.
func triples(f func(p, q, u place)) {
	all := places()
	r := rand.New(rand.NewSource(4))
	for range 5000 {
		i := r.Intn(len(all))
		near := func() place { return all[min(len(all)-1, i+r.Intn(7))] }
		f(near(), near(), near())
		f(near(), near(), all[r.Intn(len(all))])
		f(all[i], all[r.Intn(len(all))], all[r.Intn(len(all))])
	}
}

func TestTotalOrder(t *testing.T) {
	triples(func(u, v, w place) {
		p, q, s := pointOf(u), pointOf(v), pointOf(w)
		order := point.Compare(p, q)
		if order != -point.Compare(q, p) || point.Compare(p, p) != 0 {
			t.Fatalf("P7.2: the order of %v and %v depends on their positions", u, v)
		}
		if next := point.Compare(q, s); order <= 0 && next <= 0 && point.Compare(p, s) != min(order, next) {
			t.Fatalf("P7.2: the order of %v, %v and %v is not linear", u, v, w)
		}
		if point.Equal(p, q) != (order == 0) {
			t.Fatalf("P7.2: Compare of %v and %v is %d, but Equal is %v", u, v, order, point.Equal(p, q))
		}
		if order == 0 && point.Compare(p, s) != point.Compare(q, s) {
			t.Fatalf("P7.2: %v and %v are equal, but %v is not on the same side of them", u, v, w)
		}
	})
}

func TestSortedPoints(t *testing.T) {
	var list []api.Point
	for _, p := range places() {
		list = append(list, pointOf(p))
	}
	slices.SortFunc(list, point.Compare)
	for i := range list {
		for j := range i {
			if point.Compare(list[j], list[i]) > 0 {
				t.Fatalf("P7.2: %v is before %v, but greater", list[j], list[i])
			}
		}
	}
}

func TestOrderOfTranslatedPoints(t *testing.T) {
	list := vectors()
	r := rand.New(rand.NewSource(5))
	triples(func(u, v, _ place) {
		p, q := pointOf(u), pointOf(v)
		w := vecOf(list[r.Intn(len(list))])
		if point.Compare(point.Translate(p, w), point.Translate(q, w)) != point.Compare(p, q) {
			t.Fatalf("P7.2: the order of %v and %v changes by a translation by %v", u, v, w)
		}
		if point.Equal(point.Translate(p, w), point.Translate(q, w)) != point.Equal(p, q) {
			t.Fatalf("P7.2: a translation by %v makes %v and %v equal or different", w, u, v)
		}
	})
}

func TestTranslatedBack(t *testing.T) {
	for _, u := range places() {
		for _, v := range vectors() {
			there := point.Translate(pointOf(u), vecOf(v))
			if got := point.Translate(there, vecOf(vec{neg(v.x), neg(v.y)})); !same(got, pointOf(u)) {
				t.Fatalf("P7.2: %v, translated by %v and back: got %v", u, v, got)
			}
			if isMoved := v.x.Sign() != 0 || v.y.Sign() != 0; point.Equal(there, pointOf(u)) == isMoved {
				t.Fatalf("P7.2: %v, translated by %v: got %v", u, v, there)
			}
		}
	}
}

func TestSignsOfSquares(t *testing.T) {
	for _, u := range places() {
		p := pointOf(u)
		list := append(vectors(), vec{u.ax, u.ay}, vec{u.ax, add(u.ay, fraction(50))}, vec{sub(u.ax, fraction(50)), u.ay})
		// This vector is very near to the point, but mostly not equal to it.
		near, _ := point.Near(p, ratOf(fraction(40)))
		list = append(list, vec{numberOf(near.X), numberOf(near.Y)})
		for _, v := range list {
			want := 1
			if point.Equal(p, point.At(vecOf(v))) {
				want = 0
			}
			if got := root.Sign(point.Square(p, vecOf(v))); got != want {
				t.Fatalf("P7.2: the sign of the square of the distance between %v and %v: got %d, want %d", u, v, got, want)
			}
		}
	}
}

func TestSquaresOfTranslatedPoints(t *testing.T) {
	r := rand.New(rand.NewSource(6))
	list := vectors()
	for _, u := range places() {
		for _, v := range list {
			w := list[r.Intn(len(list))]
			square := point.Square(pointOf(u), vecOf(v))
			if got := point.Square(point.Translate(pointOf(u), vecOf(w)), vecOf(vec{add(v.x, w.x), add(v.y, w.y)})); !sameRoot(got, square) {
				t.Fatalf("P7.2: the square of the distance between %v and %v, both translated by %v: got %v, want %v", u, v, w, got, square)
			}
			if got := point.Square(pointOf(u.another(r)), vecOf(v)); !radical.Equal(got, square) {
				t.Fatalf("P7.2: the square of the distance between %v and %v, with another radicand: got %v, want %v", u, v, got, square)
			}
		}
	}
}

func TestEqualPointsHaveEqualCoordinates(t *testing.T) {
	triples(func(u, v, _ place) {
		p, q := pointOf(u), pointOf(v)
		equal := radical.Equal(point.X(p), point.X(q)) && radical.Equal(point.Y(p), point.Y(q))
		if point.Equal(p, q) != equal {
			t.Fatalf("P7.2: Equal of %v and %v: got %v", u, v, !equal)
		}
	})
}
