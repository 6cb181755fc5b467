package root_test

import (
	"math"
	"math/big"
	"math/rand"
	"testing"

	"swarf/api"
	"swarf/integer"
	"swarf/rational"
	"swarf/root"
)

func TestSignExamples(t *testing.T) {
	for s, want := range map[string]int{
		"0 0 0": 0, "1 0 0": 1, "-1/3 0 0": -1,
		"0 1 2": 1, "0 -1 2": -1,
		"1 1 2": 1, "-1 -1 2": -1,
		"1 -1 2": -1, "-1 1 2": 1,
		"3 -2 2": 1, "4 -3 2": -1, "-3 2 2": -1, "-4 3 2": 1,
		"3/2 -1 2": 1, "-7/5 1 2": 1, "-3/2 1 2": -1, "7/5 -1 2": -1,
		"1 -3/2 1/2": -1, "1 -4/3 1/2": 1,
		"1 -1000000000 1/999999999999999999":              -1,
		"1 -1000000000 1/1000000000000000001":             1,
		"-1" + zeros(30) + " 1 1" + zeros(59) + "1":       1,
		"1" + zeros(30) + " -1 " + nines(60):              1,
		"-1" + zeros(30) + " 1 " + nines(60):              -1,
		nines(30) + "/1" + zeros(30) + " -1 1/2":          1,
		"1/1" + zeros(40) + " -1/1" + zeros(40) + " 1/2":  1,
		"1/1" + zeros(40) + " -1/1" + zeros(40) + " 3/2":  -1,
		"-1/1" + zeros(40) + " 1/1" + zeros(41) + " 99/1": -1,
		"-1/1" + zeros(40) + " 1/1" + zeros(41) + " 101":  1,
	} {
		if got := root.Sign(rootFrom(s)); got != want {
			t.Errorf("P3.1: Sign of %s: got %d", s, got)
		}
	}
}

func TestSign(t *testing.T) {
	checkSign := func(v value) {
		if got := root.Sign(rootOf(v)); got != v.sign() {
			t.Fatalf("P3.1: Sign of %v: got %d", v, got)
		}
	}
	forAll(checkSign)
	for _, v := range convergents() {
		checkSign(v)
	}
}

// checkFloor compares a floor with the right one.
func checkFloor(t *testing.T, v value) {
	t.Helper()
	if got := root.Floor(rootOf(v)); !sameInt(got, intOf(v.floor())) {
		t.Fatalf("P3.1: Floor of %v: got %s, want %v", v, integer.Format(got), v.floor())
	}
}

func TestFloorExamples(t *testing.T) {
	for s, want := range map[string]string{
		"1 1 2": "2", "1 -1 2": "-1", "-1 1 2": "0", "-1 -1 2": "-3",
		"0 1 2": "1", "0 -1 2": "-2", "0 1 1/2": "0", "0 -1 1/2": "-1",
		"0 0 0": "0", "7/2 0 0": "3", "-7/2 0 0": "-4", "-4 0 0": "-4", "4 0 0": "4",
		"3 -2 2": "0", "4 -3 2": "-1", "1/2 1/2 5": "1", "1/2 -1/2 5": "-1",
		"0 1 99": "9", "0 1 101": "10", "0 -1 99": "-10", "0 -1 101": "-11",
		"0 1 " + nines(40):                          nines(20),
		"0 -1 " + nines(40):                         "-1" + zeros(20),
		"0 1 1" + zeros(39) + "1":                   "1" + zeros(20),
		"0 -1 1" + zeros(39) + "1":                  "-1" + zeros(19) + "1",
		"-1" + zeros(20) + " 1 1" + zeros(39) + "1": "0",
		"1" + zeros(20) + " -1 1" + zeros(39) + "1": "-1",
	} {
		if got := integer.Format(root.Floor(rootFrom(s))); got != want {
			t.Errorf("P3.1: Floor of %s: got %s, want %s", s, got, want)
		}
	}
}

func TestFloor(t *testing.T) {
	forAll(func(v value) { checkFloor(t, v) })
	for _, v := range convergents() {
		checkFloor(t, v)
		checkFloor(t, value{add(v.a, big.NewRat(1, 1)), v.b, v.c})
		checkFloor(t, value{neg(v.a), neg(v.b), v.c})
	}
	r := rand.New(rand.NewSource(4))
	for i := range 1500 {
		checkFloor(t, randomValue(r, 1+i/20, randomRadicand(r, 1+i/20)))
	}
}

// The square roots of n^2 - 1 and n^2 + 1 lie just below and just above an integer. The denominators of B and C change the form of the value, but not the value.
func TestFloorNearIntegers(t *testing.T) {
	r := rand.New(rand.NewSource(5))
	for i := range 500 {
		n := new(big.Int).Rand(r, pow10(1+i/8))
		n.Add(n, big.NewInt(2))
		for _, d := range []int64{-1, 1} {
			c := new(big.Rat).SetInt(new(big.Int).Add(new(big.Int).Mul(n, n), big.NewInt(d)))
			p := big.NewRat(1+r.Int63n(50), 1+r.Int63n(50))
			c.Quo(c, mul(p, p))
			for _, a := range []*big.Rat{new(big.Rat), big.NewRat(5, 1), new(big.Rat).SetInt(n), neg(new(big.Rat).SetInt(n)), randomRat(r, 3)} {
				checkFloor(t, value{a, p, c})
				checkFloor(t, value{a, neg(p), c})
			}
		}
	}
}

// checkEnclose examines an interval exactly.
func checkEnclose(t *testing.T, v value, bits int) {
	t.Helper()
	got, e := root.Enclose(rootOf(v), bits)
	if e != api.OK || !rational.Valid(got.Low) || !rational.Valid(got.High) {
		t.Fatalf("P3.1: Enclose of %v with %d bits: got %v, %v", v, bits, got, e)
	}
	low := new(big.Rat).SetFrac(bigOf(got.Low.Num), bigOf(got.Low.Den))
	high := new(big.Rat).SetFrac(bigOf(got.High.Num), bigOf(got.High.Den))
	if low.Cmp(high) > 0 || v.cmp(low) < 0 || v.cmp(high) > 0 {
		t.Fatalf("P3.1: Enclose of %v with %d bits: %v to %v does not contain it", v, bits, low, high)
	}
	limit := new(big.Rat).SetFrac(big.NewInt(1), new(big.Int).Lsh(big.NewInt(1), uint(bits)))
	if new(big.Rat).Sub(high, low).Cmp(limit) > 0 {
		t.Fatalf("P3.1: Enclose of %v with %d bits: %v to %v is too wide", v, bits, low, high)
	}
}

func TestEnclose(t *testing.T) {
	for bits := range 257 {
		for _, s := range []string{"0 0 0", "1/3 0 0", "-7 0 0", "1 1 2", "1 -1 2", "-3 2 2", "1/7 -22/9 3/5", "0 1 1" + zeros(39) + "1", "0 1/1" + zeros(99) + " 2"} {
			checkEnclose(t, parse(s), bits)
		}
	}
	forAll(func(v value) {
		for _, bits := range []int{0, 1, 61, 62, 63, 124, 125, 255, 256} {
			checkEnclose(t, v, bits)
		}
	})
	for _, v := range convergents() {
		checkEnclose(t, v, 256)
	}
}

func TestEncloseFails(t *testing.T) {
	for _, bits := range []int{-1, -2, 257, 258, 1000, math.MinInt, math.MaxInt} {
		for _, s := range []string{"0 0 0", "5/3 0 0", "1 1 2"} {
			got, e := root.Enclose(rootFrom(s), bits)
			if e != api.ErrInvalid || !sameRat(got.Low, api.Rat{}) || !sameRat(got.High, api.Rat{}) {
				t.Errorf("P3.1: Enclose of %s with %d bits: got %v, %v", s, bits, got, e)
			}
		}
	}
}
