package integer_test

import (
	"math"
	"testing"

	"swarf/api"
	"swarf/integer"
)

// calls returns the results of all functions with integers as results.
func calls(a, b api.Int) []api.Int {
	q, r, _ := integer.DivMod(a, b)
	root, _ := integer.Sqrt(a)
	return []api.Int{integer.Add(a, b), integer.Sub(a, b), integer.Neg(a), integer.Mul(a, b), q, r, integer.GCD(a, b), root}
}

// overwrite changes all the memory of a, behind its limbs too.
func overwrite(a api.Int) {
	limbs := a.Limbs[:cap(a.Limbs)]
	for i := range limbs {
		limbs[i] = 123
	}
}

func TestResultsShareNoMemory(t *testing.T) {
	list := []api.Int{{}}
	for _, s := range []string{"1", "-1", "5", "1000000000", "-1000000000000000000", nines(27), "-" + nines(54), "1" + nines(90)} {
		list = append(list, parse(t, s))
	}
	for _, a := range list {
		for _, b := range list {
			x, y := clone(a), clone(b)
			want := calls(x, y)
			if !same(x, a) || !same(y, b) {
				t.Fatalf("P1.1: a function changed %v or %v", a, b)
			}
			for i := range want {
				got := calls(x, y)
				overwrite(got[i])
				for j := range got {
					if j != i && !same(got[j], want[j]) {
						t.Errorf("P1.1: the results %d and %d for %v and %v share memory", i, j, a, b)
					}
				}
				if !same(x, a) || !same(y, b) {
					t.Fatalf("P1.1: result %d for %v and %v shares memory with an argument", i, a, b)
				}
			}
		}
	}
}

func TestInvalidArguments(t *testing.T) {
	top := uint32(math.MaxUint32)
	list := []api.Int{{}, {Limbs: []uint32{7}}, {Neg: true}, {Limbs: []uint32{0}}, {Limbs: []uint32{0, 0, 0}}, {Neg: true, Limbs: []uint32{0}}, {Limbs: []uint32{1, 0, 0, 0, 0, 0}}, {Limbs: []uint32{0, 0, 0, 1, 0}}, {Limbs: []uint32{top}}, {Limbs: []uint32{top, top, top}}, {Neg: true, Limbs: []uint32{top, top, top, top, top, top, top}}, {Limbs: []uint32{1, 2, 3, 4, 5, 6}}}
	for _, a := range list {
		for _, b := range list {
			calls(a, b)
			integer.Cmp(a, b)
		}
		integer.Sign(a)
		integer.Int64(a)
		integer.Format(a)
	}
}
