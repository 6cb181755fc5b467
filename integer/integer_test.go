package integer_test

import (
	"math"
	"math/big"
	"testing"

	"swarf/api"
	"swarf/integer"
)

func TestValid(t *testing.T) {
	for _, a := range []api.Int{{}, {Limbs: []uint32{}}, {Limbs: []uint32{1}}, {Neg: true, Limbs: []uint32{1}}, {Limbs: []uint32{999999999}}, {Limbs: []uint32{0, 1}}, {Neg: true, Limbs: []uint32{0, 0, 999999999}}} {
		if !integer.Valid(a) {
			t.Errorf("P1.1: %v is valid", a)
		}
	}
	for _, a := range []api.Int{{Neg: true}, {Neg: true, Limbs: []uint32{}}, {Limbs: []uint32{0}}, {Neg: true, Limbs: []uint32{0}}, {Limbs: []uint32{5, 0}}, {Limbs: []uint32{1000000000}}, {Limbs: []uint32{1000000000, 1}}, {Limbs: []uint32{1, 1000000000}}, {Limbs: []uint32{1, math.MaxUint32, 1}}} {
		if integer.Valid(a) {
			t.Errorf("P1.1: %v is not valid", a)
		}
	}
}

func TestBase(t *testing.T) {
	if integer.Base != 1000000000 {
		t.Error("P1.1: Base")
	}
	if !same(parse(t, "1000000000"), api.Int{Limbs: []uint32{0, 1}}) {
		t.Error("P1.1: 10^9 has the limbs 0, 1")
	}
}

func TestFromInt64(t *testing.T) {
	for _, n := range []int64{0, 1, -1, 999999999, 1000000000, -1000000000, 999999999999999999, 1000000000000000000, -1000000000000000001, math.MaxInt64, math.MinInt64, math.MaxInt64 - 1, math.MinInt64 + 1} {
		a := integer.FromInt64(n)
		check(t, a, big.NewInt(n), "FromInt64", big.NewInt(n))
		if m, ok := integer.Int64(a); !ok || m != n {
			t.Errorf("P1.1: Int64 of %d: got %d, %v", n, m, ok)
		}
	}
}

func TestInt64(t *testing.T) {
	list := append(samples(), new(big.Int).Lsh(big.NewInt(1), 65), new(big.Int).Mul(pow10(18), big.NewInt(10)), new(big.Int).Mul(pow10(18), big.NewInt(-18)))
	for _, x := range list {
		n, ok := integer.Int64(fromBig(x))
		if ok != x.IsInt64() || ok && n != x.Int64() || !ok && n != 0 {
			t.Errorf("P1.1: Int64 of %v: got %d, %v", x, n, ok)
		}
	}
}

func TestSignAndNeg(t *testing.T) {
	for _, x := range samples() {
		if got := integer.Sign(fromBig(x)); got != x.Sign() {
			t.Errorf("P1.1: Sign of %v: got %d", x, got)
		}
		check(t, integer.Neg(fromBig(x)), new(big.Int).Neg(x), "Neg", x)
	}
}

func TestCmp(t *testing.T) {
	forPairs(func(x, y *big.Int) {
		if got := integer.Cmp(fromBig(x), fromBig(y)); got != x.Cmp(y) {
			t.Fatalf("P1.1: Cmp of %v and %v: got %d", x, y, got)
		}
	})
}

func TestAddSubMul(t *testing.T) {
	forPairs(func(x, y *big.Int) {
		a, b := fromBig(x), fromBig(y)
		check(t, integer.Add(a, b), new(big.Int).Add(x, y), "Add", x, y)
		check(t, integer.Sub(a, b), new(big.Int).Sub(x, y), "Sub", x, y)
		check(t, integer.Mul(a, b), new(big.Int).Mul(x, y), "Mul", x, y)
	})
}

func TestMulOfLongNumbers(t *testing.T) {
	x, y := new(big.Int).Sub(pow10(20000), big.NewInt(1)), new(big.Int).Sub(pow10(9009), big.NewInt(1))
	for _, p := range [][2]*big.Int{{x, x}, {x, y}, {y, x}, {y, new(big.Int).Neg(y)}} {
		check(t, integer.Mul(fromBig(p[0]), fromBig(p[1])), new(big.Int).Mul(p[0], p[1]), "Mul of long numbers")
	}
}
