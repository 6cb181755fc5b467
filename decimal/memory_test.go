package decimal_test

import (
	"math"
	"slices"
	"testing"

	"swarf/api"
	"swarf/decimal"
)

func cloneInt(a api.Int) api.Int { return api.Int{Neg: a.Neg, Limbs: slices.Clone(a.Limbs)} }
func cloneRat(a api.Rat) api.Rat { return api.Rat{Num: cloneInt(a.Num), Den: cloneInt(a.Den)} }

// clone returns a copy that shares no memory with p.
func clone(p api.Point) api.Point {
	return api.Point{AX: cloneRat(p.AX), BX: cloneRat(p.BX), AY: cloneRat(p.AY), BY: cloneRat(p.BY), C: cloneRat(p.C)}
}

// samePoint reports whether two points have the same form.
func samePoint(p, q api.Point) bool {
	return same(p.AX, q.AX) && same(p.BX, q.BX) && same(p.AY, q.AY) && same(p.BY, q.BY) && same(p.C, q.C)
}

// calls returns the integers of the results of all functions with numbers as results, after calls of all the others.
func calls(p api.Point) []api.Int {
	decimal.Snap(p)
	for _, digits := range []int{-1, 0, 1, 30, 31, math.MinInt, math.MaxInt} {
		decimal.Format(p.AX, digits)
		decimal.Format(p.BY, digits)
	}
	s, _ := decimal.Exact(p.AX)
	x, _ := decimal.Parse(s)
	r := api.Root{A: p.AX, B: p.BX, C: p.C}
	return []api.Int{x.Num, x.Den, decimal.Nearest(r), decimal.Down(r), decimal.Up(r)}
}

// overwrite changes all the memory of a, behind its limbs too.
func overwrite(a api.Int) {
	limbs := a.Limbs[:cap(a.Limbs)]
	for i := range limbs {
		limbs[i] = 123
	}
}

func TestResultsShareNoMemory(t *testing.T) {
	for _, s := range []string{"0 0 0", "1 0 0", "-1 0 0", "5/4 0 0", "-1/3 0 0", "1000000000 0 0", nines(60) + " 0 0", nines(30) + "/1000 0 0", "0 1 2", "5/2 -1 8", "-7 1/3 " + nines(30) + "/2"} {
		v := parse(s)
		p := pointOf(v, v)
		q := clone(p)
		want := calls(q)
		for i := range want {
			got := calls(q)
			overwrite(got[i])
			for j := range got {
				if j != i && !sameInt(got[j], want[j]) {
					t.Errorf("P6.1: the integers %d and %d of the results for %s share memory", i, j, s)
				}
			}
		}
		if !samePoint(p, q) {
			t.Errorf("P6.1: a function changed %s, or shares memory with it", s)
		}
	}
}

// All that is promised here is that the calls end without a panic.
func TestInvalidArguments(t *testing.T) {
	top := uint32(math.MaxUint32)
	parts := []api.Int{{}, {Limbs: []uint32{1}}, {Limbs: []uint32{4}}, {Neg: true, Limbs: []uint32{4}}, {Neg: true}, {Limbs: []uint32{0, 0, 0}}, {Limbs: []uint32{1, 0, 0, 0, 0}}, {Neg: true, Limbs: []uint32{top, top, top, top, top}}}
	var list []api.Rat
	for i, num := range parts {
		for j, den := range parts {
			if i == 1 || j == 1 || (i+j)%3 == 0 {
				list = append(list, api.Rat{Num: num, Den: den})
			}
		}
	}
	for _, a := range list {
		for _, b := range list {
			for i, c := range list {
				calls(api.Point{AX: a, BX: b, AY: list[len(list)-1-i], BY: a, C: c})
			}
		}
	}
}
