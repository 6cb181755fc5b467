package root_test

import (
	"math"
	"slices"
	"testing"

	"swarf/api"
	"swarf/root"
)

func cloneInt(a api.Int) api.Int { return api.Int{Neg: a.Neg, Limbs: slices.Clone(a.Limbs)} }
func cloneRat(a api.Rat) api.Rat { return api.Rat{Num: cloneInt(a.Num), Den: cloneInt(a.Den)} }

// clone returns a copy that shares no memory with r.
func clone(r api.Root) api.Root {
	return api.Root{A: cloneRat(r.A), B: cloneRat(r.B), C: cloneRat(r.C)}
}

// calls returns the numbers of the results of all functions with numbers as results.
func calls(r, s api.Root) []api.Rat {
	var list []api.Rat
	note := func(x api.Root, _ api.Errno) { list = append(list, x.A, x.B, x.C) }
	note(root.Make(r.A, r.B, r.C))
	note(root.Make(r.A, s.B, s.A))
	note(root.Make(r.A, r.A, r.A))
	note(root.FromRat(r.A), api.OK)
	note(root.Neg(r), api.OK)
	note(root.Scale(r, s.A), api.OK)
	note(root.Add(r, s))
	note(root.Mul(r, s))
	note(root.Inv(r))
	plain, _ := root.Rational(r)
	list = append(list, plain, api.Rat{Num: root.Floor(r)})
	for _, bits := range []int{0, 7, 256} {
		interval, _ := root.Enclose(r, bits)
		list = append(list, interval.Low, interval.High)
	}
	return list
}

// overwrite changes all the memory of a, behind its limbs too.
func overwrite(a api.Int) {
	limbs := a.Limbs[:cap(a.Limbs)]
	for i := range limbs {
		limbs[i] = 123
	}
}

// checkMemory overwrites the numerator of number i of the results, and then its denominator.
func checkMemory(t *testing.T, i int, r, s api.Root, want []api.Rat) {
	t.Helper()
	got := calls(r, s)
	overwrite(got[i].Num)
	if !sameInt(got[i].Den, want[i].Den) {
		t.Errorf("P3.1: the parts of number %d for %v and %v share memory", i, r, s)
	}
	overwrite(got[i].Den)
	for j := range got {
		if j != i && !sameRat(got[j], want[j]) {
			t.Errorf("P3.1: the numbers %d and %d for %v and %v share memory", i, j, r, s)
		}
	}
}

func TestResultsShareNoMemory(t *testing.T) {
	var list []api.Root
	for _, s := range []string{"0 0 0", "1 0 0", "-1 0 0", "3/2 0 0", "1 1 2", "0 1 2", "1 -1 2", "-1 -1 2", "2 -1/3 2", "1/2 1/3 5/7", nines(30) + "/7 " + nines(20) + " " + nines(25) + "/2", "4 4 " + nines(25) + "/2"} {
		list = append(list, rootFrom(s))
	}
	for _, a := range list {
		for _, b := range list {
			r, s := clone(a), clone(b)
			want := calls(r, s)
			if !same(r, a) || !same(s, b) {
				t.Fatalf("P3.1: a function changed %v or %v", a, b)
			}
			for i := range want {
				checkMemory(t, i, r, s, want)
				if !same(r, a) || !same(s, b) {
					t.Fatalf("P3.1: number %d of the results for %v and %v shares memory with an argument", i, a, b)
				}
			}
		}
	}
}

// All that is promised here is that the calls end without a panic.
func TestInvalidArguments(t *testing.T) {
	top := uint32(math.MaxUint32)
	parts := []api.Int{{}, {Limbs: []uint32{1}}, {Limbs: []uint32{4}}, {Neg: true, Limbs: []uint32{4}}, {Neg: true}, {Limbs: []uint32{0, 0, 0}}, {Limbs: []uint32{1, 0, 0, 0, 0}}, {Neg: true, Limbs: []uint32{top, top, top, top, top}}}
	var numbers []api.Rat
	for i, num := range parts {
		for j, den := range parts {
			if i == 1 || j == 1 || (i+j)%3 == 0 {
				numbers = append(numbers, api.Rat{Num: num, Den: den})
			}
		}
	}
	var last api.Root
	for _, a := range numbers {
		for _, b := range numbers {
			for _, c := range numbers {
				r := api.Root{A: a, B: b, C: c}
				calls(r, last)
				root.Sign(r)
				root.Valid(r)
				last = r
			}
		}
	}
}
