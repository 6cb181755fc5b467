package rational_test

import (
	"math"
	"slices"
	"testing"

	"swarf/api"
	"swarf/rational"
)

// clone returns a copy that shares no memory with a.
func clone(a api.Rat) api.Rat {
	return api.Rat{
		Num: api.Int{Neg: a.Num.Neg, Limbs: slices.Clone(a.Num.Limbs)},
		Den: api.Int{Neg: a.Den.Neg, Limbs: slices.Clone(a.Den.Limbs)},
	}
}

// calls returns the results of all functions with numbers as results.
func calls(a, b api.Rat) []api.Rat {
	list := []api.Rat{rational.Add(a, b), rational.Sub(a, b), rational.Neg(a), rational.Mul(a, b), {Num: rational.Floor(a)}}
	for _, x := range [][2]api.Int{{a.Num, a.Den}, {a.Den, a.Num}, {a.Num, b.Num}, {a.Num, b.Den}} {
		made, _ := rational.Make(x[0], x[1])
		list = append(list, made)
	}
	divided, _ := rational.Div(a, b)
	root, _ := rational.Sqrt(a)
	simplest, _ := rational.Simplest(a, b)
	return append(list, divided, root, simplest)
}

// overwrite changes all the memory of a, behind its limbs too.
func overwrite(a api.Int) {
	limbs := a.Limbs[:cap(a.Limbs)]
	for i := range limbs {
		limbs[i] = 123
	}
}

func TestResultsShareNoMemory(t *testing.T) {
	var list []api.Rat
	for _, s := range []string{"0", "1", "-1", "4", "1/2", "-1/2", "9/4", "2/3", "-1000000000", "1/1000000000", nines(30) + "/7", "7/" + nines(30)} {
		list = append(list, ratOf(number(s)))
	}
	for _, a := range list {
		for _, b := range list {
			x, y := clone(a), clone(b)
			want := calls(x, y)
			if !same(x, a) || !same(y, b) {
				t.Fatalf("P2.1: a function changed %v or %v", a, b)
			}
			for i := range want {
				checkMemory(t, i, x, y)
				if !same(x, a) || !same(y, b) {
					t.Fatalf("P2.1: result %d for %v and %v shares memory with an argument", i, a, b)
				}
			}
		}
	}
}

// checkMemory overwrites the numerator of result i, and then its denominator.
func checkMemory(t *testing.T, i int, x, y api.Rat) {
	t.Helper()
	want := calls(x, y)
	got := calls(x, y)
	overwrite(got[i].Num)
	if !sameInt(got[i].Den, want[i].Den) {
		t.Errorf("P2.1: the parts of result %d for %v and %v share memory", i, x, y)
	}
	overwrite(got[i].Den)
	for j := range got {
		if j != i && !same(got[j], want[j]) {
			t.Errorf("P2.1: the results %d and %d for %v and %v share memory", i, j, x, y)
		}
	}
}

// All that is promised here is that the calls end without a panic.
func TestInvalidArguments(t *testing.T) {
	top := uint32(math.MaxUint32)
	parts := []api.Int{{}, {Limbs: []uint32{1}}, {Limbs: []uint32{6}}, {Neg: true, Limbs: []uint32{4}}, {Neg: true}, {Limbs: []uint32{0}}, {Limbs: []uint32{0, 0, 0}}, {Limbs: []uint32{1, 0, 0, 0, 0}}, {Limbs: []uint32{top}}, {Neg: true, Limbs: []uint32{top, top, top, top}}}
	var list []api.Rat
	for _, num := range parts {
		for _, den := range parts {
			list = append(list, api.Rat{Num: num, Den: den})
		}
	}
	for _, a := range list {
		for _, b := range list {
			calls(a, b)
			rational.Cmp(a, b)
		}
		rational.Sign(a)
		rational.Valid(a)
		rational.Format(a)
	}
}
