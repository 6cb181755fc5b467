package radical_test

import (
	"math"
	"slices"
	"testing"

	"swarf/api"
	"swarf/radical"
)

func cloneInt(a api.Int) api.Int { return api.Int{Neg: a.Neg, Limbs: slices.Clone(a.Limbs)} }
func cloneRat(a api.Rat) api.Rat { return api.Rat{Num: cloneInt(a.Num), Den: cloneInt(a.Den)} }

// clone returns a copy that shares no memory with r.
func clone(r api.Root) api.Root {
	return api.Root{A: cloneRat(r.A), B: cloneRat(r.B), C: cloneRat(r.C)}
}

// sameRoot reports whether two roots have the same form.
func sameRoot(r, s api.Root) bool { return same(r.A, s.A) && same(r.B, s.B) && same(r.C, s.C) }

// calls returns the integers of the results of all functions with numbers as results, after calls of all the others.
func calls(a, b api.Root) []api.Int {
	q := radical.Sub(a, b)
	between, _ := radical.Between(a, b)
	radical.Sign(q)
	radical.Sign(api.Quad{A: a.A, B: a.B, C: b.B, D: b.A, M: a.C, N: b.C})
	radical.Cmp(a, b)
	radical.Equal(a, b)
	radical.CmpRat(a, b.A)
	radical.Sum(a.C, b.C, a.A, b.A)
	radical.Sort([]api.Root{a, b, a, b})
	var list []api.Int
	for _, x := range []api.Rat{q.A, q.B, q.C, q.D, q.M, q.N, between} {
		list = append(list, x.Num, x.Den)
	}
	return list
}

// overwrite changes all the memory of a, behind its limbs too.
func overwrite(a api.Int) {
	limbs := a.Limbs[:cap(a.Limbs)]
	for i := range limbs {
		limbs[i] = 123
	}
}

func TestResultsShareNoMemory(t *testing.T) {
	var list []api.Root
	for _, s := range []string{"0 0 0", "1 0 0", "-1 0 0", "3/2 0 0", "0 1 2", "1 1 2", "0 1 8", "0 2 2", "1/2 -1/3 5/7", nines(30) + "/7 " + nines(20) + " " + nines(25) + "/2", "4 4 " + nines(25) + "/2"} {
		list = append(list, rootFrom(s))
	}
	for _, v := range list {
		for _, w := range list {
			a, b := clone(v), clone(w)
			checkMemory(t, a, b)
			if !sameRoot(a, v) || !sameRoot(b, w) {
				t.Fatalf("P5.1: a function changed %v or %v", v, w)
			}
		}
		// Here, the memory of both arguments is the same.
		a := clone(v)
		checkMemory(t, a, a)
		if !sameRoot(a, v) {
			t.Fatalf("P5.1: a function changed %v", v)
		}
	}
}

// checkMemory overwrites the integers of the results one by one.
func checkMemory(t *testing.T, a, b api.Root) {
	t.Helper()
	want := calls(a, b)
	for i := range want {
		got := calls(a, b)
		overwrite(got[i])
		for j := range got {
			if j != i && !sameInt(got[j], want[j]) {
				t.Errorf("P5.1: the integers %d and %d of the results for %v and %v share memory", i, j, a, b)
			}
		}
	}
}

func TestSortKeepsItsArgument(t *testing.T) {
	list := []api.Root{rootFrom("3 0 0"), rootFrom("0 1 8"), rootFrom("1 0 0"), rootFrom("0 2 2")}
	before := slices.Clone(list)
	first := radical.Sort(list)
	first[0] = 77
	if !slices.EqualFunc(list, before, sameRoot) || !slices.Equal(radical.Sort(list), []int{2, 1, 3, 0}) {
		t.Error("P5.1: Sort changed its argument")
	}
}

// All that is promised here is that the calls end without a panic.
func TestInvalidArguments(t *testing.T) {
	top := uint32(math.MaxUint32)
	parts := []api.Int{{}, {Limbs: []uint32{1}}, {Limbs: []uint32{4}}, {Neg: true, Limbs: []uint32{4}}, {Neg: true}, {Limbs: []uint32{0, 0, 0}}, {Limbs: []uint32{1, 0, 0, 0, 0}}, {Neg: true, Limbs: []uint32{top, top, top, top, top}}}
	var list []api.Rat
	for i, num := range parts {
		for j, den := range parts {
			if i == 1 || j == 1 || (i+j)%3 == 0 {
				list = append(list, api.Rat{Num: num, Den: den})
			}
		}
	}
	var last api.Root
	for _, a := range list {
		for _, b := range list {
			for _, c := range list {
				r := api.Root{A: a, B: b, C: c}
				calls(r, last)
				last = r
			}
		}
	}
}

// Roots that are not in reduced form can have rational values, beside which no bound is near enough.
func TestRootsThatAreNotReduced(t *testing.T) {
	var list []api.Root
	for _, a := range []string{"0", "1", "-1", "2", "-2", "1/2"} {
		for _, b := range []string{"0", "1", "-1", "3/2"} {
			for _, c := range []string{"0", "1", "4", "9/4", "-1", "-4", "2"} {
				list = append(list, api.Root{A: ratOf(number(a)), B: ratOf(number(b)), C: ratOf(number(c))})
			}
		}
	}
	for _, a := range list {
		for _, b := range list {
			calls(a, b)
		}
	}
}
