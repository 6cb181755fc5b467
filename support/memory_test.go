package support_test

import (
	"math"
	"slices"
	"testing"

	"swarf/api"
	"swarf/support"
)

func cloneInt(a api.Int) api.Int { return api.Int{Neg: a.Neg, Limbs: slices.Clone(a.Limbs)} }
func clone(a api.Rat) api.Rat    { return api.Rat{Num: cloneInt(a.Num), Den: cloneInt(a.Den)} }

// calls returns the integers of the results of all functions with numbers as results, after calls of all the others. It makes all arguments from the same few numbers, so that many of them share their memory.
func calls(a, b, c api.Rat) []api.Int {
	l, m := api.Line{A: a, B: b, C: c}, api.Line{A: b, B: c, C: a}
	circle := api.Circle{X: a, Y: b, Q: c}
	p := api.Point{AX: a, BX: b, AY: b, BY: a, C: c}
	u, v, w := api.Vec{X: a, Y: b}, api.Vec{X: b, Y: c}, api.Vec{X: c, Y: a}
	support.ValidLine(l)
	support.ValidCircle(circle)
	support.SameLine(l, m)
	support.SameCircle(circle, api.Circle{X: b, Y: c, Q: a})
	support.Side(l, p)
	support.Inside(circle, p)
	through, _ := support.Through(u, v)
	foot, twice := support.Foot(l, v), support.Foot(l, u)
	round, _ := support.CircleThrough(u, v, w)
	var list []api.Int
	for _, x := range []api.Rat{through.A, through.B, through.C, foot.X, foot.Y, twice.X, twice.Y, round.X, round.Y, round.Q} {
		list = append(list, x.Num, x.Den)
	}
	return list
}

// overwrite changes all the memory of a, behind its limbs too.
func overwrite(a api.Int) {
	limbs := a.Limbs[:cap(a.Limbs)]
	for i := range limbs {
		limbs[i] = 123
	}
}

// checkMemory overwrites the integers of the results one by one.
func checkMemory(t *testing.T, a, b, c api.Rat) {
	t.Helper()
	before := [3]api.Rat{clone(a), clone(b), clone(c)}
	want := calls(a, b, c)
	for i := range want {
		got := calls(a, b, c)
		if !slices.EqualFunc(got, want, sameInt) {
			t.Fatalf("P8.1: the results for %v change", before)
		}
		overwrite(got[i])
		for j := range got {
			if j != i && !sameInt(got[j], want[j]) {
				t.Errorf("P8.1: the integers %d and %d of the results for %v share memory", i, j, before)
			}
		}
		if !sameRat(a, before[0]) || !sameRat(b, before[1]) || !sameRat(c, before[2]) {
			t.Fatalf("P8.1: integer %d of the results for %v shares memory with an argument, or a function changed one", i, before)
		}
	}
}

func TestResultsShareNoMemory(t *testing.T) {
	list := numbers("0 1 -1 2 3/2 -1000000000 1/1000000000 " + nines(30) + "/7")
	for _, x := range list {
		for _, y := range list {
			for _, z := range list {
				checkMemory(t, ratOf(x), ratOf(y), ratOf(z))
			}
			// Here, the memory of several numbers is the same.
			a, b := ratOf(x), ratOf(y)
			checkMemory(t, a, a, b)
			checkMemory(t, a, b, a)
			checkMemory(t, b, a, a)
		}
	}
}

// All that is promised here is that the calls end without a panic.
func TestInvalidArguments(t *testing.T) {
	top := uint32(math.MaxUint32)
	parts := []api.Int{{}, {Limbs: []uint32{1}}, {Limbs: []uint32{4}}, {Neg: true, Limbs: []uint32{4}}, {Neg: true}, {Limbs: []uint32{0, 0, 0}}, {Limbs: []uint32{1, 0, 0, 0, 0}}, {Neg: true, Limbs: []uint32{top, top, top, top, top}}}
	var list []api.Rat
	for i, num := range parts {
		for j, den := range parts {
			if i == 1 || j == 1 || (i+j)%3 == 0 {
				list = append(list, api.Rat{Num: num, Den: den})
			}
		}
	}
	for _, a := range list {
		for _, b := range list {
			for _, c := range list {
				calls(a, b, c)
			}
		}
	}
	calls(api.Rat{}, api.Rat{}, api.Rat{})
}
