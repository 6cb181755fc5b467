package point_test

import (
	"testing"

	"swarf/point"
)

func TestCompareExamples(t *testing.T) {
	for x, want := range map[[2]string]int{
		{"0 1 0 0 8", "0 2 0 0 2"}:             0,
		{"0 0 0 1 8", "0 0 0 2 2"}:             0,
		{"0 1 0 1 8", "0 2 0 2 2"}:             0,
		{"0 1 0 1 8", "0 2 0 -2 2"}:            1,
		{"0 1 0 0 8", "3 0 -1 0 0"}:            -1,
		{"0 2 0 0 2", "3 0 -1 0 0"}:            -1,
		{"0 0 0 0 0", "0 0 0 0 0"}:             0,
		{"1 0 2 0 0", "1 0 3 0 0"}:             -1,
		{"1 0 2 0 0", "2 0 1 0 0"}:             -1,
		{"2 0 2 0 0", "1 0 3 0 0"}:             1,
		{"-1 0 2 0 0", "-2 0 3 0 0"}:           1,
		{"3 0 4 0 0", "3 0 -4 0 0"}:            1,
		{"1 0 0 2 6", "1 0 0 -2 6"}:            1,
		{"1 0 0 -2 6", "1 0 0 0 0"}:            -1,
		{"1 0 0 2 6", "1 0 0 1 24"}:            0,
		{"1 0 0 2 6", "1 0 0 1 23"}:            1,
		{"1 0 0 2 6", "1 0 5 0 0"}:             -1,
		{"0 1 0 0 2", "0 1 1 0 3"}:             -1,
		{"0 1 1 0 2", "0 1/2 0 0 8"}:           1,
		{"0 1 1 0 2", "0 1 0 1 2"}:             -1,
		{"1 1 0 0 2", "0 1 0 0 6"}:             -1,
		{"0 470832 0 0 2", "665857 0 0 0 0"}:   -1,
		{"0 0 0 470832 2", "0 0 665857 0 0"}:   -1,
		{"0 -470832 0 0 2", "-665857 0 0 0 0"}: 1,
		// The first difference is so small that intervals do not show it, and the second one is great.
		{"0 1 7 0 2" + zeros(40), "1/" + nines(40) + " 1 -7 0 2" + zeros(40)}: -1,
		{"0 1 7 0 2", "1/" + nines(40) + " 1/2 -7 0 8"}:                       -1,
		{"0 1 0 7 2", "0 1/2 1/" + nines(40) + " 7/2 8"}:                      -1,
		{"1/" + nines(40) + " 1 0 1 2", "1/" + nines(40) + " 1/3 0 1/3 18"}:   0,
	} {
		p, q := pointFrom(x[0]), pointFrom(x[1])
		if point.Compare(p, q) != want || point.Compare(q, p) != -want {
			t.Errorf("P7.1: Compare of %v: got %d, and %d in the other order", x, point.Compare(p, q), point.Compare(q, p))
		}
		if point.Equal(p, q) != (want == 0) || point.Equal(q, p) != (want == 0) {
			t.Errorf("P7.1: Equal of %v: got %v, and %v in the other order", x, point.Equal(p, q), point.Equal(q, p))
		}
	}
}

func TestCompare(t *testing.T) {
	list := places()
	for _, p := range list {
		for _, q := range list {
			want := p.cmp(q)
			if got := point.Compare(pointOf(p), pointOf(q)); got != want {
				t.Fatalf("P7.1: Compare of %v and %v: got %d, want %d", p, q, got, want)
			}
			if got := point.Equal(pointOf(p), pointOf(q)); got != (want == 0) {
				t.Fatalf("P7.1: Equal of %v and %v: got %v", p, q, got)
			}
		}
	}
}
