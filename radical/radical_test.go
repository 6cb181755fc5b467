package radical_test

import (
	"math/big"
	"math/rand"
	"slices"
	"testing"

	"swarf/api"
	"swarf/radical"
)

// checkSub compares the fields of a difference with the right ones.
func checkSub(t *testing.T, v, w value) {
	t.Helper()
	a, b := rootOf(v), rootOf(w)
	got := radical.Sub(a, b)
	want := api.Quad{A: ratOf(sub(v.a, w.a)), B: a.B, C: ratOf(neg(w.b)), D: ratOf(zero()), M: a.C, N: b.C}
	for i, x := range [][2]api.Rat{{got.A, want.A}, {got.B, want.B}, {got.C, want.C}, {got.D, want.D}, {got.M, want.M}, {got.N, want.N}} {
		if !same(x[0], x[1]) {
			t.Fatalf("P5.1: field %d of Sub of %v and %v: got %v, want %v", i, v, w, x[0], x[1])
		}
	}
}

func TestOrder(t *testing.T) {
	list := values()
	for _, v := range list {
		for _, w := range list {
			checkSub(t, v, w)
			want := v.cmp(w)
			a, b := rootOf(v), rootOf(w)
			if got := radical.Cmp(a, b); got != want {
				t.Fatalf("P5.1: Cmp of %v and %v: got %d, want %d", v, w, got, want)
			}
			if got := radical.Sign(radical.Sub(a, b)); got != want {
				t.Fatalf("P5.1: Sign of Sub of %v and %v: got %d, want %d", v, w, got, want)
			}
			if got := radical.Equal(a, b); got != (want == 0) {
				t.Fatalf("P5.1: Equal of %v and %v: got %v", v, w, got)
			}
			if got, want := radical.CmpRat(a, ratOf(w.a)), v.cmp(plain(w.a)); got != want {
				t.Fatalf("P5.1: CmpRat of %v and %v: got %d, want %d", v, w.a, got, want)
			}
		}
	}
}

func TestOrderExamples(t *testing.T) {
	for x, want := range map[[2]string]int{
		{"0 1 8", "0 2 2"}:           0,
		{"0 1/2 8", "0 1 2"}:         0,
		{"5 -3 1/2", "5 -1/2 18"}:    0,
		{"5 -3 1/2", "5 1/2 18"}:     -1,
		{"0 1 2", "0 1 3"}:           -1,
		{"0 -1 2", "0 -1 3"}:         1,
		{"1 1 2", "0 1 6"}:           -1,
		{"1 1 2", "1 1 2"}:           0,
		{"1 1 2", "2 1 2"}:           -1,
		{"1 1 2", "1 2 2"}:           -1,
		{"1 1 2", "3/2 1/2 2"}:       1,
		{"1 1 2", "12/5 0 0"}:        1,
		{"5/2 0 0", "1 1 2"}:         1,
		{"7/3 0 0", "7/3 0 0"}:       0,
		{"-7/3 0 0", "-2 0 0"}:       -1,
		{"0 470832 2", "665857 0 0"}: -1,
		// These differ in one number only, and so little that intervals do not tell them apart.
		{"1 1 2", "1 1 2" + zeros(40) + "1/1" + zeros(41)}:                                 -1,
		{"1 1 2", "1 1" + zeros(40) + "1/1" + zeros(41) + " 2"}:                            -1,
		{"1 1 2", "1" + zeros(40) + "1/1" + zeros(41) + " 1 2"}:                            -1,
		{"1 1 2/" + nines(40), "1 1 2/1" + zeros(39) + "1"}:                                1,
		{"1 1/" + nines(40) + " 2", "1 1/1" + zeros(39) + "1 2"}:                           1,
		{"1/" + nines(40) + " 1 2", "1/1" + zeros(39) + "1 1 2"}:                           1,
		{"1/" + nines(40) + " 1 2", "1/1" + zeros(39) + "1 1/2 8"}:                         1,
		{nines(40) + " 1 2", nines(40) + " 1 2" + zeros(40) + "1/1" + zeros(41)}:           -1,
		{"0 1 1" + zeros(40), "1" + zeros(20) + " 1 1/" + nines(40)}:                       -1,
		{"0 1 " + nines(40), "0 3 " + new(big.Int).Div(pow10(40), big.NewInt(9)).String()}: 0,
	} {
		a, b := rootFrom(x[0]), rootFrom(x[1])
		if radical.Cmp(a, b) != want || radical.Cmp(b, a) != -want || radical.Equal(a, b) != (want == 0) {
			t.Errorf("P5.1: Cmp of %v: got %d, want %d", x, radical.Cmp(a, b), want)
		}
	}
}

// The quotients of their parts are the convergents of sqrt(2), and so these numbers nearly are sqrt(2), on either side of it.
func TestConvergents(t *testing.T) {
	p, q := big.NewInt(1), big.NewInt(1)
	for i := range 300 {
		want := 1 - 2*(i%2)
		x := ratOf(new(big.Rat).SetFrac(p, q))
		for _, s := range []string{"0 1 2", "0 1/2 8", "0 2 1/2"} {
			if got := radical.CmpRat(rootFrom(s), x); got != want {
				t.Fatalf("P5.1: CmpRat of %s and %v/%v: got %d", s, p, q, got)
			}
		}
		// Here, both values are irrational, and have no common radicand.
		v, w := value{one(), new(big.Rat).SetFrac(p, q), big.NewRat(3, 1)}, parse("1 1 6")
		if got := radical.Cmp(rootOf(w), rootOf(v)); got != want {
			t.Fatalf("P5.1: Cmp of %v and %v: got %d", w, v, got)
		}
		p, q = new(big.Int).Add(p, new(big.Int).Lsh(q, 1)), new(big.Int).Add(p, q)
	}
}

// checkSum compares the sign of sqrt(d) - sqrt(p) - sqrt(q) - r with the right one.
func checkSum(t *testing.T, d, p, q, r *big.Rat) {
	t.Helper()
	minus := big.NewRat(-1, 1)
	want := signOfRoots(3, signed{one(), d}, signed{minus, p}, signed{minus, q}, signed{neg(r), one()})
	if got, e := radical.Sum(ratOf(d), ratOf(p), ratOf(q), ratOf(r)); e != api.OK || got != want {
		t.Fatalf("P5.1: Sum of %v, %v, %v, %v: got %d, %v, want %d", d, p, q, r, got, e, want)
	}
}

func TestSumExamples(t *testing.T) {
	for s, want := range map[string]int{
		"25 4 1 2":       0,
		"25 4 1 3":       -1,
		"25 4 1 1":       1,
		"26 4 1 2":       1,
		"24 4 1 2":       -1,
		"0 0 0 0":        0,
		"1/9 0 0 0":      1,
		"0 1/9 0 0":      -1,
		"0 0 1/9 0":      -1,
		"0 0 0 1/9":      -1,
		"18 2 8 0":       0,
		"18 2 8 1/99999": -1,
		"10 2 3 0":       1,
		"9 2 3 0":        -1,
		"8 2 2 0":        0,
		"9/4 1/4 1 0":    0,
		"3 1 0 3/4":      -1,
		"3 1 0 7/10":     1,
		"5 0 1 5/4":      -1,
		"2 0 2 0":        0,
		"2 2 0 0":        0,
		"16 0 0 4":       0,
		"100000000000000000000000000000000000000 0 25000000000000000000000000000000000000 5000000000000000000":                     0,
		"100000000000000000000000000000000000000 0 25000000000000000000000000000000000000 5000000000000000000000000001/1000000000": -1,
	} {
		f := numbers(s)
		if got, e := radical.Sum(ratOf(f[0]), ratOf(f[1]), ratOf(f[2]), ratOf(f[3])); e != api.OK || got != want {
			t.Errorf("P5.1: Sum of %s: got %d, %v, want %d", s, got, e, want)
		}
	}
}

func TestSumOfNegativeNumbers(t *testing.T) {
	for _, s := range []string{"-25 4 1 2", "25 -4 1 2", "25 4 -1 2", "25 4 1 -2", "-1 -1 -1 -1", "-1/1000000 0 0 0", "0 -1/1000000 0 0", "0 0 -1/1000000 0", "0 0 0 -1/1000000", "-" + nines(40) + " 1 1 1", "1 1 1 -" + nines(40)} {
		f := numbers(s)
		if got, e := radical.Sum(ratOf(f[0]), ratOf(f[1]), ratOf(f[2]), ratOf(f[3])); e != api.ErrNegative || got != 0 {
			t.Errorf("P5.1: Sum of %s: got %d, %v", s, got, e)
		}
	}
}

func TestSum(t *testing.T) {
	for i := range 4 * 4 * 4 * 10 {
		checkSum(t, big.NewRat(int64(i/64*2), 1), big.NewRat(int64(i%4), 1), big.NewRat(int64(i/4%4), 2), big.NewRat(int64(i/16%4), 3))
	}
	r := rand.New(rand.NewSource(5))
	for i := range 200 {
		digits := 1 + i/10
		// The three roots are x, y and x + y times sqrt(m), or those of squares.
		x, y, m := randomPositive(r, digits), randomPositive(r, digits), randomPositive(r, digits)
		d, p, q := mul(m, mul(add(x, y), add(x, y))), mul(m, mul(x, x)), mul(m, mul(y, y))
		z := add(add(x, y), m)
		for _, small := range []*big.Rat{zero(), fraction(1), fraction(10), fraction(60)} {
			checkSum(t, d, p, q, small)
			checkSum(t, add(d, small), p, q, zero())
			checkSum(t, d, add(p, small), q, zero())
			checkSum(t, mul(z, z), mul(x, x), mul(y, y), add(m, small))
			checkSum(t, add(mul(z, z), small), mul(x, x), mul(y, y), m)
		}
		checkSum(t, m, x, y, new(big.Rat).Abs(randomRat(r, digits)))
	}
}

// checkSort compares the positions with those of a simple method: each element precedes those after it that are not less.
func checkSort(t *testing.T, l []value) {
	t.Helper()
	var want []int
	for i, v := range l {
		at := len(want)
		for at > 0 && l[want[at-1]].cmp(v) > 0 {
			at--
		}
		want = slices.Insert(want, at, i)
	}
	if got := radical.Sort(rootsOf(l)); !slices.Equal(got, want) {
		t.Fatalf("P5.1: Sort of %v: got %v, want %v", l, got, want)
	}
}

func TestSort(t *testing.T) {
	checkSort(t, nil)
	all := values()
	for n := range 20 {
		checkSort(t, all[n:n+1])
		checkSort(t, all[n:2*n])
	}
	r := rand.New(rand.NewSource(6))
	for n := range 60 {
		var list []value
		for range n {
			list = append(list, all[r.Intn(len(all))])
		}
		checkSort(t, list)
	}
	for range 2 {
		list := slices.Clone(all)
		r.Shuffle(len(list), func(i, j int) { list[i], list[j] = list[j], list[i] })
		checkSort(t, list)
	}
}

// Many elements are equal, and differ only in their form.
func TestSortKeepsTheOrderOfEqualValues(t *testing.T) {
	var list []value
	for i := range 200 {
		k := big.NewRat(int64(i*7%11+1), 3)
		v := value{zero(), big.NewRat(1, 1), big.NewRat(int64(2+i%3), 2)}
		if isSquare(v.c) {
			v = plain(one())
		}
		list = append(list, value{v.a, new(big.Rat).Quo(v.b, k), mul(v.c, mul(k, k))})
	}
	checkSort(t, list)
	slices.Reverse(list)
	checkSort(t, list)
	if got := radical.Sort([]api.Root{rootFrom("0 1 8"), rootFrom("3 0 0"), rootFrom("0 2 2"), rootFrom("0 1 2"), rootFrom("0 4 1/2"), rootFrom("3 0 0")}); !slices.Equal(got, []int{3, 0, 2, 4, 1, 5}) {
		t.Errorf("P5.1: Sort: got %v", got)
	}
}
