package rational_test

import (
	"math"
	"math/big"
	"math/rand"
	"testing"

	"swarf/api"
	"swarf/rational"
)

// checkMake compares a quotient with the right one.
func checkMake(t *testing.T, num, den *big.Int) {
	t.Helper()
	got, e := rational.Make(intOf(num), intOf(den))
	if den.Sign() == 0 {
		if e != api.ErrZero || !same(got, api.Rat{}) {
			t.Fatalf("P2.1: Make of %v and 0: got %v, %v", num, got, e)
		}
		return
	}
	if e != api.OK {
		t.Fatalf("P2.1: Make of %v and %v: %v", num, den, e)
	}
	check(t, got, new(big.Rat).SetFrac(num, den), "Make")
}

func TestMake(t *testing.T) {
	for _, x := range samples() {
		for _, y := range samples() {
			checkMake(t, x.Num(), y.Num())
			checkMake(t, new(big.Int).Mul(x.Num(), y.Denom()), new(big.Int).Mul(y.Num(), y.Denom()))
		}
	}
	got, _ := rational.Make(intOf(big.NewInt(6)), intOf(big.NewInt(-4)))
	if !same(got, api.Rat{Num: api.Int{Neg: true, Limbs: []uint32{3}}, Den: api.Int{Limbs: []uint32{2}}}) {
		t.Errorf("P2.1: 6/-4 is -3/2: got %v", got)
	}
}

func TestFromInt64AndFrac(t *testing.T) {
	list := []int64{0, 1, -1, 2, -4, 6, 999999999, -1000000000, 1000000000000000000, math.MaxInt64, math.MinInt64, math.MinInt64 + 1}
	for _, n := range list {
		check(t, rational.FromInt64(n), new(big.Rat).SetInt64(n), "FromInt64")
		for _, d := range list {
			want := new(big.Rat)
			if d != 0 {
				want.SetFrac(big.NewInt(n), big.NewInt(d))
			}
			check(t, rational.Frac(n, d), want, "Frac", new(big.Rat).SetInt64(n), new(big.Rat).SetInt64(d))
		}
	}
}

func TestValid(t *testing.T) {
	for _, x := range samples() {
		if !rational.Valid(ratOf(x)) {
			t.Errorf("P2.1: %v is valid", x)
		}
	}
	limbs := func(l ...uint32) api.Int { return api.Int{Limbs: l} }
	for _, a := range []api.Rat{
		{},
		{Num: limbs(1)},
		{Num: limbs(0), Den: limbs(1)},
		{Num: limbs(1), Den: limbs(0)},
		{Den: limbs(2)},
		{Num: limbs(2), Den: limbs(4)},
		{Num: limbs(3), Den: limbs(3)},
		{Num: limbs(1), Den: api.Int{Neg: true, Limbs: []uint32{2}}},
		{Num: limbs(1), Den: api.Int{Neg: true, Limbs: []uint32{1}}},
		{Num: api.Int{Neg: true}, Den: limbs(1)},
		{Num: limbs(1, 0), Den: limbs(1)},
		{Num: limbs(1000000000), Den: limbs(1)},
		{Num: limbs(1), Den: limbs(2, 0)},
		{Num: limbs(1), Den: limbs(1000000000)},
		{Num: limbs(0, 0, 0, 1), Den: limbs(0, 0, 3)},
	} {
		if rational.Valid(a) {
			t.Errorf("P2.1: %v is not valid", a)
		}
	}
}

func TestOneNumber(t *testing.T) {
	for _, x := range samples() {
		a := ratOf(x)
		if got := rational.Sign(a); got != x.Sign() {
			t.Errorf("P2.1: Sign of %v: got %d", x, got)
		}
		check(t, rational.Neg(a), new(big.Rat).Neg(x), "Neg", x)
		// Since the denominator is positive, Euclid's division is the one that rounds down.
		floor := new(big.Int).Div(x.Num(), x.Denom())
		if got := rational.Floor(a); !sameInt(got, intOf(floor)) {
			t.Errorf("P2.1: Floor of %v: got %v", x, got)
		}
	}
	if got := rational.Floor(rational.Frac(6, -4)); !sameInt(got, intOf(big.NewInt(-2))) {
		t.Errorf("P2.1: Floor of -3/2: got %v", got)
	}
}

func TestTwoNumbers(t *testing.T) {
	forPairs(func(x, y *big.Rat) {
		a, b := ratOf(x), ratOf(y)
		if got := rational.Cmp(a, b); got != x.Cmp(y) {
			t.Fatalf("P2.1: Cmp of %v and %v: got %d", x, y, got)
		}
		check(t, rational.Add(a, b), new(big.Rat).Add(x, y), "Add", x, y)
		check(t, rational.Sub(a, b), new(big.Rat).Sub(x, y), "Sub", x, y)
		check(t, rational.Mul(a, b), new(big.Rat).Mul(x, y), "Mul", x, y)
		got, e := rational.Div(a, b)
		if y.Sign() == 0 {
			if e != api.ErrZero || !same(got, api.Rat{}) {
				t.Fatalf("P2.1: Div of %v and 0: got %v, %v", x, got, e)
			}
			return
		}
		if e != api.OK {
			t.Fatalf("P2.1: Div of %v and %v: %v", x, y, e)
		}
		check(t, got, new(big.Rat).Quo(x, y), "Div", x, y)
	})
}

// Here the numbers are so close that only their last digits decide.
func TestCmpOfNeighbours(t *testing.T) {
	for _, n := range []int{1, 9, 18, 30, 100} {
		p := pow10(n)
		next := new(big.Int).Add(p, big.NewInt(1))
		x, y := new(big.Rat).SetFrac(p, next), new(big.Rat).SetFrac(next, new(big.Int).Add(next, big.NewInt(1)))
		a, b := ratOf(x), ratOf(y)
		if rational.Cmp(a, b) != -1 || rational.Cmp(b, a) != 1 || rational.Cmp(a, a) != 0 || rational.Cmp(rational.Neg(a), rational.Neg(b)) != 1 {
			t.Errorf("P2.1: Cmp of %v and %v", x, y)
		}
	}
}

// checkSqrt compares a square root with the right one.
func checkSqrt(t *testing.T, x, want *big.Rat) {
	t.Helper()
	got, ok := rational.Sqrt(ratOf(x))
	if want == nil {
		if ok || !same(got, api.Rat{}) {
			t.Errorf("P2.1: Sqrt of %v: got %v, %v", x, got, ok)
		}
		return
	}
	if !ok {
		t.Errorf("P2.1: Sqrt of %v is %v", x, want)
		return
	}
	check(t, got, want, "Sqrt", x)
}

func TestSqrtExamples(t *testing.T) {
	for x, root := range map[string]string{"0": "0", "1": "1", "4": "2", "9/4": "3/2", "1/16": "1/4", "1000000000000000000": "1000000000", "1/998001": "1/999"} {
		checkSqrt(t, number(x), number(root))
	}
	for _, x := range []string{"2", "3", "8", "-1", "-4", "-9/4", "1/2", "9/2", "2/9", "4/3", "8/9", "9/8", "1/1000", "999999999999999999", "1000000000000000001"} {
		checkSqrt(t, number(x), nil)
	}
}

func TestSqrt(t *testing.T) {
	r := rand.New(rand.NewSource(3))
	list := samples()
	for range 300 {
		list = append(list, randomRat(r, 70))
	}
	for _, x := range list {
		square := new(big.Rat).Mul(x, x)
		checkSqrt(t, square, new(big.Rat).Abs(x))
		if square.Sign() != 0 {
			checkSqrt(t, new(big.Rat).Neg(square), nil)
			checkSqrt(t, new(big.Rat).Mul(square, big.NewRat(2, 3)), nil)
			// No two positive squares differ by 1 in the numerator.
			checkSqrt(t, new(big.Rat).SetFrac(new(big.Int).Add(square.Num(), big.NewInt(1)), square.Num()), nil)
		}
	}
}
