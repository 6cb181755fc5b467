package filter_test

import (
	"math"
	"math/big"
	"math/rand"
	"testing"

	"swarf/api"
	"swarf/filter"
)

func TestScale(t *testing.T) {
	if filter.Scale != 65536 {
		t.Errorf("P4.1: Scale is %d", filter.Scale)
	}
}

func TestFromRat(t *testing.T) {
	for _, x := range rationals() {
		if got, ok := filter.FromRat(ratOf(x)); !fromRat(x).is(got, ok) {
			t.Errorf("P4.1: FromRat of %v: got %v, %v", x, got, ok)
		}
	}
	for s, want := range map[string]filter.Interval{
		"1/3":             {Low: 21845, High: 21846},
		"-1/3":            {Low: -21846, High: -21845},
		"2":               {Low: 131072, High: 131072},
		"-1/65536":        {Low: -1, High: -1},
		"1/" + nines(30):  {Low: 0, High: 1},
		"-1/" + nines(30): {Low: -1, High: 0},
		"35184372088832":  {Low: limit, High: limit},
		"-35184372088832": {Low: -limit, High: -limit},
	} {
		if got, ok := filter.FromRat(ratOf(number(s))); !ok || got != want {
			t.Errorf("P4.1: FromRat of %s: got %v, %v", s, got, ok)
		}
	}
	for _, s := range []string{"35184372088833", "-35184372088833", "2305843009213693953/65536", "-2305843009213693953/65536", "2305843009213693952000001/65536000000", nines(50), "-" + nines(50), nines(50) + "/7"} {
		if got, ok := filter.FromRat(ratOf(number(s))); ok || got != (filter.Interval{}) {
			t.Errorf("P4.1: FromRat of %s: got %v, %v", s, got, ok)
		}
	}
}

func TestAddNegMul(t *testing.T) {
	all := intervals()
	for _, a := range all {
		if got := filter.Neg(a); !from(a).neg().is(got, true) {
			t.Errorf("P4.1: Neg of %v: got %v", a, got)
		}
		for _, b := range all {
			if got, ok := filter.Add(a, b); !from(a).add(from(b)).is(got, ok) {
				t.Fatalf("P4.1: Add of %v and %v: got %v, %v", a, b, got, ok)
			}
			if got, ok := filter.Mul(a, b); !from(a).mul(from(b)).is(got, ok) {
				t.Fatalf("P4.1: Mul of %v and %v: got %v, %v", a, b, got, ok)
			}
		}
	}
}

// The products are chosen around the limit, where only the last binary digits decide whether there is a result.
func TestProductsNearTheLimit(t *testing.T) {
	const top = limit
	for _, x := range []int64{1 << 38, 1<<38 + 1, 1<<39 - 1, 3 << 37, 1 << 61, 12345678901234} {
		whole, _ := new(big.Int).SetString("151115727451828646838272", 10) // 2^61 times Scale
		y := new(big.Int).Div(whole, big.NewInt(x)).Int64()
		for step := int64(-2); step <= 2; step++ {
			for _, a := range []filter.Interval{{Low: x, High: x}, {Low: -x, High: -x}, {Low: -x, High: x}, {Low: -1, High: x}} {
				b := filter.Interval{Low: y + step, High: min(top, y+step+1)}
				if b.Low > b.High {
					continue
				}
				for _, c := range []filter.Interval{b, filter.Neg(b)} {
					if got, ok := filter.Mul(a, c); !from(a).mul(from(c)).is(got, ok) {
						t.Errorf("P4.1: Mul of %v and %v: got %v, %v", a, c, got, ok)
					}
				}
			}
		}
	}
}

func TestSqrt(t *testing.T) {
	for _, a := range intervals() {
		if got, ok := filter.Sqrt(a); !from(a).sqrt().is(got, ok) {
			t.Errorf("P4.1: Sqrt of %v: got %v, %v", a, got, ok)
		}
	}
	for a, want := range map[filter.Interval]filter.Interval{
		{Low: 131072, High: 131072}: {Low: 92681, High: 92682},
		{Low: 65536, High: 65536}:   {Low: 65536, High: 65536},
		{Low: -5, High: 0}:          {Low: 0, High: 0},
		{Low: -5, High: 1}:          {Low: 0, High: 256},
		{Low: -limit, High: limit}:  {Low: 0, High: 388736063997},
	} {
		if got, ok := filter.Sqrt(a); !ok || got != want {
			t.Errorf("P4.1: Sqrt of %v: got %v, %v", a, got, ok)
		}
	}
	if got, ok := filter.Sqrt(filter.Interval{Low: -2, High: -1}); ok || got != (filter.Interval{}) {
		t.Errorf("P4.1: Sqrt of negative numbers: got %v, %v", got, ok)
	}
}

// Each root of 40 binary digits is taken right below, at, and right above a square.
func TestSqrtNearSquares(t *testing.T) {
	r := rand.New(rand.NewSource(5))
	for i := range 20000 {
		root := r.Int63n(1 << (1 + i%39))
		square := new(big.Int).Mul(big.NewInt(root), big.NewInt(root))
		n := square.Div(square, big.NewInt(filter.Scale)).Int64()
		for _, m := range []int64{n, n + 1} {
			a := filter.Interval{Low: m, High: m}
			if got, ok := filter.Sqrt(a); !from(a).sqrt().is(got, ok) {
				t.Fatalf("P4.1: Sqrt of %v: got %v, %v", a, got, ok)
			}
		}
	}
}

func TestRoot(t *testing.T) {
	for _, v := range values() {
		if got, ok := filter.Root(rootOf(v)); !fromRoot(v).is(got, ok) {
			t.Errorf("P4.1: Root of %v: got %v, %v", v, got, ok)
		}
	}
}

// A negative C counts only if B is not 0, however small C is.
func TestRootWithoutResult(t *testing.T) {
	for _, s := range []string{"1 1 -1", "1 1 -1/1000000000", "1 -1 -1/" + nines(40), "1 1/" + nines(40) + " -2", nines(30) + " 0 0", nines(30) + " 1 2", "1 1 " + nines(30), "1 " + nines(30) + " 2", "1 " + nines(30) + " 0", "0 35184372088832 2", "35184372088832 1 2"} {
		if got, ok := filter.Root(rootOf(parse(s))); ok || got != (filter.Interval{}) {
			t.Errorf("P4.1: Root of %s: got %v, %v", s, got, ok)
		}
	}
	for _, s := range []string{"3/2 0 -1", "3/2 0 " + nines(30), "3/2 0 0", "3/2 1 0"} {
		if got, ok := filter.Root(rootOf(parse(s))); !ok || got != (filter.Interval{Low: 98304, High: 98304}) {
			t.Errorf("P4.1: Root of %s: got %v, %v", s, got, ok)
		}
	}
}

func TestSign(t *testing.T) {
	for _, a := range intervals() {
		want, decided := from(a).sign()
		if got, ok := filter.Sign(a); got != want || ok != decided {
			t.Errorf("P4.1: Sign of %v: got %d, %v", a, got, ok)
		}
	}
	for a, want := range map[filter.Interval]struct {
		sign int
		ok   bool
	}{
		{Low: -1, High: 0}:  {0, false},
		{Low: 0, High: 1}:   {0, false},
		{Low: -1, High: 1}:  {0, false},
		{Low: 0, High: 0}:   {0, true},
		{Low: 1, High: 1}:   {1, true},
		{Low: -2, High: -1}: {-1, true},
	} {
		if got, ok := filter.Sign(a); got != want.sign || ok != want.ok {
			t.Errorf("P4.1: Sign of %v: got %d, %v", a, got, ok)
		}
	}
	r, ok := filter.Root(rootOf(parse("1 -1 2")))
	if sign, known := filter.Sign(r); !ok || !known || sign != -1 {
		t.Errorf("P4.1: the sign of 1 - sqrt(2): got %d, %v", sign, known)
	}
}

// places returns lines with points, many of which are near to the lines or on them.
func places() []placed {
	var list []placed
	r := rand.New(rand.NewSource(6))
	for i := range 4000 {
		digits := 1 + i/300
		c := new(big.Rat).Abs(randomRat(r, digits))
		p := placed{randomRat(r, digits), randomRat(r, digits), randomRat(r, digits), value{randomRat(r, digits), randomRat(r, digits), c}, value{randomRat(r, digits), randomRat(r, digits), c}}
		sum := value{add(mul(p.a, p.x.a), mul(p.b, p.y.a)), add(mul(p.a, p.x.b), mul(p.b, p.y.b)), c}
		switch i % 3 {
		case 0:
			p.c = add(sum.a, nearTo(value{new(big.Rat), sum.b, c}, r))
		case 1:
			p.c = rounded(sum.a, 1<<r.Intn(30))
		}
		list = append(list, p)
	}
	return list
}

// rounded rounds a number down to a multiple of 1 / den.
func rounded(x *big.Rat, den int64) *big.Rat {
	n := down(mul(x, big.NewRat(den, 1)))
	return new(big.Rat).SetFrac(n, big.NewInt(den))
}

// at returns a line and a point whose text consists of A, B and C, of AX, BX, AY and BY, and of the radicand.
func at(s string) placed {
	f := numbers(s)
	return placed{f[0], f[1], f[2], value{f[3], f[4], f[7]}, value{f[5], f[6], f[7]}}
}

func TestSide(t *testing.T) {
	for _, p := range places() {
		want, decided := p.side()
		if got, ok := filter.Side(p.line(), p.point()); got != want || ok != decided {
			t.Fatalf("P4.1: Side of %v: got %d, %v", p, got, ok)
		}
	}
}

func TestSideExamples(t *testing.T) {
	for s, want := range map[string]struct {
		sign int
		ok   bool
	}{
		"99 0 140 0 1 0 0 2":                                  {1, true},
		"-99 0 -140 0 1 0 0 2":                                {-1, true},
		"0 99 140 0 0 0 1 2":                                  {1, true},
		"470832 0 665857 0 1 0 0 2":                           {0, false},
		"1 1 2 1 0 1 0 0":                                     {0, true},
		"1 1 3 1 0 1 0 0":                                     {-1, true},
		"1 -1 0 3 0 2 0 0":                                    {1, true},
		"1 0 0 0 1 0 0 " + nines(30):                          {0, false},
		"0 1 0 0 1 1 0 " + nines(30):                          {0, false},
		"1 0 0 1 0 0 1 " + nines(30):                          {0, false},
		"1 0 0 1 0 0 0 " + nines(30):                          {1, true},
		"0 1 " + nines(30) + " 0 0 1 0 0":                     {0, false},
		nines(30) + " 1 0 0 0 1 0 0":                          {0, false},
		"1 " + nines(30) + " 0 1 0 0 0 0":                     {0, false},
		"0 1 0 " + nines(30) + " 0 1 0 0":                     {0, false},
		"35184372088832 1 0 1 0 1 0 0":                        {0, false},
		"35184372088832 0 -35184372088832 1 0 0 0 0":          {0, false},
		"35184372088832 0 35184372088832 1 0 0 0 0":           {0, true},
		"35184372088832 -35184372088832 -1 1 0 1 0 0":         {1, true},
		"-35184372088832 -1 -35184372088832 1 0 -1/2 0 0":     {1, true},
		"1 0 0 0 1 0 0 -1":                                    {0, false},
		"1 0 0 1 0 1 0 -1":                                    {1, true},
		"1/3 1/3 1 1 0 2 0 0":                                 {0, false},
		"1 1 1/" + nines(40) + " 1/" + nines(40) + " 0 0 0 0": {0, false},
	} {
		p := at(s)
		if got, ok := filter.Side(p.line(), p.point()); got != want.sign || ok != want.ok {
			t.Errorf("P4.1: Side of %s: got %d, %v", s, got, ok)
		}
	}
}

// All that is promised here is that the calls end without a panic.
func TestInvalidArguments(t *testing.T) {
	least, most := int64(math.MinInt64), int64(math.MaxInt64)
	wide := []filter.Interval{{}, {Low: 1, High: -1}, {Low: least, High: most}, {Low: most, High: least}, {Low: least, High: least}, {Low: most, High: most}, {Low: limit + 1, High: limit + 1}}
	for _, a := range wide {
		filter.Neg(a)
		filter.Sqrt(a)
		filter.Sign(a)
		for _, b := range wide {
			filter.Add(a, b)
			filter.Mul(a, b)
		}
	}
	top := uint32(math.MaxUint32)
	parts := []api.Int{{}, {Limbs: []uint32{1}}, {Neg: true, Limbs: []uint32{4}}, {Neg: true}, {Limbs: []uint32{0, 0, 0}}, {Limbs: []uint32{1, 0, 0, 0, 0}}, {Neg: true, Limbs: []uint32{top, top, top, top, top}}, {Limbs: []uint32{top, top}}}
	var list []api.Rat
	for _, num := range parts {
		for _, den := range parts {
			list = append(list, api.Rat{Num: num, Den: den})
		}
	}
	for i, a := range list {
		b, c := list[(7*i+3)%len(list)], list[(11*i+5)%len(list)]
		filter.FromRat(a)
		filter.Root(api.Root{A: a, B: b, C: c})
		filter.Root(api.Root{A: parseRat("1"), B: b, C: c})
		filter.Side(api.Line{A: a, B: b, C: c}, api.Point{AX: b, BX: c, AY: a, BY: b, C: parseRat("2")})
	}
}

// parseRat returns the number with a text.
func parseRat(s string) api.Rat { return ratOf(number(s)) }
