package point_test

import (
	"math"
	"slices"
	"testing"

	"swarf/api"
	"swarf/point"
)

func cloneInt(a api.Int) api.Int { return api.Int{Neg: a.Neg, Limbs: slices.Clone(a.Limbs)} }
func cloneRat(a api.Rat) api.Rat { return api.Rat{Num: cloneInt(a.Num), Den: cloneInt(a.Den)} }

// clone returns a copy that shares no memory with p.
func clone(p api.Point) api.Point {
	return api.Point{AX: cloneRat(p.AX), BX: cloneRat(p.BX), AY: cloneRat(p.AY), BY: cloneRat(p.BY), C: cloneRat(p.C)}
}

// integers returns the integers of some numbers.
func integers(numbers ...api.Rat) []api.Int {
	var list []api.Int
	for _, a := range numbers {
		list = append(list, a.Num, a.Den)
	}
	return list
}

// calls returns the integers of the results of all functions with numbers as results, after calls of all the others. It makes roots, vectors and tolerances from the parts of p and q, so that many arguments share their memory.
func calls(p, q api.Point) []api.Int {
	point.Valid(p)
	point.Equal(p, q)
	point.Compare(p, q)
	v := api.Vec{X: q.AX, Y: q.AY}
	plain, _ := point.Rational(p)
	near, _ := point.Near(p, q.C)
	same, _ := point.Near(p, p.C)
	list := integers(plain.X, plain.Y, near.X, near.Y, same.X, same.Y)
	x, y := api.Root{A: p.AX, B: p.BX, C: p.C}, api.Root{A: q.AY, B: q.BY, C: q.C}
	made, _ := point.Make(x, y)
	twice, _ := point.Make(x, x)
	for _, u := range []api.Point{made, twice, point.At(v), point.At(api.Vec{X: p.AX, Y: p.AX}), point.OfGrid(api.Grid2{X: 3, Y: -4}), point.Translate(p, v)} {
		list = append(list, integers(u.AX, u.BX, u.AY, u.BY, u.C)...)
	}
	for _, r := range []api.Root{point.X(p), point.Y(p), point.Square(p, v), point.Square(p, api.Vec{X: p.AX, Y: p.AY})} {
		list = append(list, integers(r.A, r.B, r.C)...)
	}
	return list
}

// overwrite changes all the memory of a, behind its limbs too.
func overwrite(a api.Int) {
	limbs := a.Limbs[:cap(a.Limbs)]
	for i := range limbs {
		limbs[i] = 123
	}
}

// checkMemory overwrites the integers of the results one by one.
func checkMemory(t *testing.T, p, q api.Point) {
	t.Helper()
	want := calls(p, q)
	before := [2]api.Point{clone(p), clone(q)}
	for i := range want {
		got := calls(p, q)
		overwrite(got[i])
		for j := range got {
			if j != i && !sameInt(got[j], want[j]) {
				t.Errorf("P7.1: the integers %d and %d of the results for %v and %v share memory", i, j, p, q)
			}
		}
		if !same(p, before[0]) || !same(q, before[1]) {
			t.Fatalf("P7.1: integer %d of the results for %v and %v shares memory with an argument", i, before[0], before[1])
		}
	}
}

func TestResultsShareNoMemory(t *testing.T) {
	var list []api.Point
	for _, s := range []string{"0 0 0 0 0", "1 0 -1 0 0", "3/2 0 " + nines(30) + "/7 0 0", "1 1 3 0 2", "3 0 1 1 2", "0 1 0 -1 8", "1 1 1 1 2", "1 1 1 -1 2", "1/2 -1/3 " + nines(20) + " 2 5/7", "7 7 7 7 7", "1/2 0 0 1 " + nines(25) + "/2"} {
		list = append(list, pointFrom(s))
	}
	for _, u := range list {
		for _, v := range list {
			p, q := clone(u), clone(v)
			calls(p, q)
			if !same(p, u) || !same(q, v) {
				t.Fatalf("P7.1: a function changed %v or %v", u, v)
			}
			checkMemory(t, p, q)
		}
		// Here, the memory of both arguments is the same.
		p := clone(u)
		checkMemory(t, p, p)
	}
}

// All that is promised here is that the calls end without a panic.
func TestInvalidArguments(t *testing.T) {
	top := uint32(math.MaxUint32)
	parts := []api.Int{{}, {Limbs: []uint32{1}}, {Limbs: []uint32{4}}, {Neg: true, Limbs: []uint32{4}}, {Neg: true}, {Limbs: []uint32{0, 0, 0}}, {Limbs: []uint32{1, 0, 0, 0, 0}}, {Neg: true, Limbs: []uint32{top, top, top, top, top}}}
	var list []api.Rat
	for i, num := range parts {
		for j, den := range parts {
			if i == 1 || j == 1 || (i+j)%3 == 0 {
				list = append(list, api.Rat{Num: num, Den: den})
			}
		}
	}
	var last api.Point
	for i, a := range list {
		for j, b := range list {
			for _, c := range list {
				p := api.Point{AX: a, BX: b, AY: list[len(list)-1-i], BY: list[len(list)-1-j], C: c}
				calls(p, last)
				point.Near(p, a)
				point.Near(p, list[1])
				last = p
			}
		}
	}
}

// Points that are not in reduced form can have rational coordinates with a square root.
func TestPointsThatAreNotReduced(t *testing.T) {
	var list []api.Point
	for _, a := range []string{"0", "1", "-1/2"} {
		for _, b := range []string{"0", "1", "-3/2"} {
			for _, c := range []string{"0", "1", "9/4", "-1", "-4", "2"} {
				x, y, z := ratOf(number(a)), ratOf(number(b)), ratOf(number(c))
				list = append(list, api.Point{AX: x, BX: y, AY: y, BY: x, C: z}, api.Point{AX: x, BX: y, AY: x, BY: y, C: z})
			}
		}
	}
	for _, p := range list {
		for _, q := range list {
			calls(p, q)
		}
	}
}
