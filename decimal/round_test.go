package decimal_test

import (
	"math/big"
	"testing"

	"swarf/api"
	"swarf/decimal"
	"swarf/integer"
)

func TestRoundingExamples(t *testing.T) {
	for s, want := range map[string][3]int64{
		"0 0 0": {0, 0, 0}, "1/2 0 0": {1, 0, 1}, "-1/2 0 0": {0, -1, 0}, "3/2 0 0": {2, 1, 2}, "-3/2 0 0": {-1, -2, -1},
		"7 0 0": {7, 7, 7}, "-7 0 0": {-7, -7, -7}, "1/3 0 0": {0, 0, 1}, "-1/3 0 0": {0, -1, 0}, "2/3 0 0": {1, 0, 1}, "-2/3 0 0": {-1, -1, 0},
		"3 -1 2": {2, 1, 2}, "-3 1 2": {-2, -2, -1}, "0 1 2": {1, 1, 2}, "0 -1 2": {-1, -2, -1}, "0 1 3": {2, 1, 2}, "0 -1 3": {-2, -2, -1},
		"1/2 1 1/1000000000001": {1, 0, 1}, "1/2 -1 1/1000000000001": {0, 0, 1}, "-1/2 1 1/1000000000001": {0, -1, 0}, "-1/2 -1 1/1000000000001": {-1, -1, 0},
	} {
		r := rootOf(parse(s))
		if got := [3]api.Int{decimal.Nearest(r), decimal.Down(r), decimal.Up(r)}; !sameInt(got[0], intOf(big.NewInt(want[0]))) || !sameInt(got[1], intOf(big.NewInt(want[1]))) || !sameInt(got[2], intOf(big.NewInt(want[2]))) {
			t.Errorf("P6.1: Nearest, Down and Up of %s: got %v, want %v", s, got, want)
		}
	}
}

func TestRounding(t *testing.T) {
	for _, v := range values() {
		r := rootOf(v)
		for _, x := range []struct {
			call string
			got  api.Int
			want *big.Int
		}{
			{"Nearest", decimal.Nearest(r), v.nearest()},
			{"Down", decimal.Down(r), v.floor()},
			{"Up", decimal.Up(r), v.ceiling()},
		} {
			if !sameInt(x.got, intOf(x.want)) || !integer.Valid(x.got) {
				t.Fatalf("P6.1: %s of %v: got %s, want %v", x.call, v, integer.Format(x.got), x.want)
			}
		}
	}
}

// pointOf makes the point (x, y) from its definition; the radicand of x and y is the same one, unless one of them is rational.
func pointOf(x, y value) api.Point {
	c := new(big.Rat)
	for _, v := range []value{x, y} {
		if v.b.Sign() != 0 {
			c = v.c
		}
	}
	return api.Point{AX: ratOf(x.a), BX: ratOf(x.b), AY: ratOf(y.a), BY: ratOf(y.b), C: ratOf(c)}
}

// checkSnap compares the position of a point with the right one, or the error.
func checkSnap(t *testing.T, x, y value) {
	t.Helper()
	got, e := decimal.Snap(pointOf(x, y))
	right := [2]*big.Int{x.nearest(), y.nearest()}
	for _, n := range right {
		if n.CmpAbs(big.NewInt(api.MaxGrid)) > 0 {
			if e != api.ErrRange || got != (api.Grid2{}) {
				t.Fatalf("P6.1: Snap of (%v, %v): got %v, %v", x, y, got, e)
			}
			return
		}
	}
	if e != api.OK || got != (api.Grid2{X: right[0].Int64(), Y: right[1].Int64()}) {
		t.Fatalf("P6.1: Snap of (%v, %v): got %v, %v, want %v", x, y, got, e, right)
	}
}

func TestSnapExamples(t *testing.T) {
	for _, x := range []struct {
		x, y string
		want api.Grid2
		e    api.Errno
	}{
		{"0 0 0", "0 0 0", api.Grid2{}, api.OK},
		{"1/2 0 0", "-1/2 0 0", api.Grid2{X: 1, Y: 0}, api.OK},
		{"3 -1 2", "0 0 0", api.Grid2{X: 2, Y: 0}, api.OK},
		{"-7/3 0 0", "3 -1 2", api.Grid2{X: -2, Y: 2}, api.OK},
		{"0 1000 2", "0 -1000 2", api.Grid2{X: 1414, Y: -1414}, api.OK},
		{"10000000 0 0", "-10000000 0 0", api.Grid2{X: 10000000, Y: -10000000}, api.OK},
		{"100000004/10 0 0", "-100000005/10 0 0", api.Grid2{X: 10000000, Y: -10000000}, api.OK},
		{"100000005/10 0 0", "0 0 0", api.Grid2{}, api.ErrRange},
		{"0 0 0", "100000005/10 0 0", api.Grid2{}, api.ErrRange},
		{"-100000006/10 0 0", "0 0 0", api.Grid2{}, api.ErrRange},
		{"0 0 0", "-100000006/10 0 0", api.Grid2{}, api.ErrRange},
		{"20000001/2 -1 1/1000000000001", "7 0 0", api.Grid2{X: 10000000, Y: 7}, api.OK},
		{"7 0 0", "-20000001/2 -1 1/1000000000001", api.Grid2{}, api.ErrRange},
		{"9223372036854775808 0 0", "1 0 0", api.Grid2{}, api.ErrRange},
		{"1 0 0", "18446744073709551617 0 0", api.Grid2{}, api.ErrRange},
		{"0 1 " + nines(60), "0 0 0", api.Grid2{}, api.ErrRange},
	} {
		if got, e := decimal.Snap(pointOf(parse(x.x), parse(x.y))); got != x.want || e != x.e {
			t.Errorf("P6.1: Snap of (%s, %s): got %v, %v", x.x, x.y, got, e)
		}
	}
}

func TestSnap(t *testing.T) {
	list := values()
	for i, x := range list {
		checkSnap(t, x, list[0])
		checkSnap(t, list[0], x)
		// The second coordinate has the same radicand.
		checkSnap(t, x, value{mul(x.b, big.NewRat(int64(i%7), 2)), sub(x.a, half()), x.c})
	}
	limit := big.NewRat(api.MaxGrid, 1)
	for _, sign := range []int64{-1, 1} {
		edge := mul(limit, big.NewRat(sign, 1))
		for digits := range 25 {
			for _, k := range []int64{-5, -1, 0, 1, 5} {
				shift := mul(fraction(digits), big.NewRat(k, 1))
				for _, middle := range []int64{-1, 0, 1} {
					x := value{add(edge, add(shift, big.NewRat(middle, 2))), new(big.Rat), new(big.Rat)}
					y := value{x.a, fraction(digits), big.NewRat(2, 1)}
					checkSnap(t, x, y)
					checkSnap(t, y, x)
					checkSnap(t, x, list[0])
					checkSnap(t, list[0], y)
				}
			}
		}
	}
}
