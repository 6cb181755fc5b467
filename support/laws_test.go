package support_test

import (
	"math/rand"
	"testing"

	"swarf/point"
	"swarf/support"
)

func TestMultipliedLines(t *testing.T) {
	for _, l := range lines() {
		for _, k := range factors() {
			m := l.times(k)
			if !support.ValidLine(lineOf(m)) || !support.SameLine(lineOf(l), lineOf(m)) || !support.SameLine(lineOf(m), lineOf(l)) {
				t.Fatalf("P8.2: %v, multiplied by %v, is another line", l, k)
			}
			for _, p := range places() {
				if support.Side(lineOf(m), pointOf(p)) != k.Sign()*support.Side(lineOf(l), pointOf(p)) {
					t.Fatalf("P8.2: Side of %v and %v is not multiplied by the sign of %v", l, p, k)
				}
			}
			for _, v := range vectors() {
				if !sameVec(support.Foot(lineOf(m), vecOf(v)), support.Foot(lineOf(l), vecOf(v))) {
					t.Fatalf("P8.2: Foot of %v and %v changes if the line is multiplied by %v", l, v, k)
				}
			}
		}
	}
}

func TestTranslations(t *testing.T) {
	r := rand.New(rand.NewSource(8))
	list := vectors()
	for _, p := range places() {
		for _, l := range lines() {
			v := list[r.Intn(len(list))]
			moved := point.Translate(pointOf(p), vecOf(v))
			if support.Side(lineOf(l.moved(v)), moved) != support.Side(lineOf(l), pointOf(p)) {
				t.Fatalf("P8.2: Side of %v and %v changes by a translation by %v", l, p, v)
			}
		}
		for _, c := range circles() {
			v := list[r.Intn(len(list))]
			moved := point.Translate(pointOf(p), vecOf(v))
			if support.Inside(circleOf(c.moved(v)), moved) != support.Inside(circleOf(c), pointOf(p)) {
				t.Fatalf("P8.2: Inside of %v and %v changes by a translation by %v", c, p, v)
			}
		}
	}
}

// These points are on the lines and circles before and after the translation.
func TestTranslationsOfPointsOnSupports(t *testing.T) {
	l, c := lineFrom("1 -1 0"), circleFrom("0 0 4")
	for _, s := range []string{"0 1 0 1 2", "0 -1 0 -1 2", "0 1/2 0 1/2 8"} {
		for _, v := range vectors() {
			moved := point.Translate(pointFrom(s), vecOf(v))
			if support.Side(lineOf(l.moved(v)), moved) != 0 || support.Inside(circleOf(c.moved(v)), moved) != 0 {
				t.Fatalf("P8.2: %s is not on the line or the circle after a translation by %v", s, v)
			}
		}
	}
}

func TestWaysToFeet(t *testing.T) {
	for _, l := range lines() {
		a, b := l.pair()
		for _, v := range vectors() {
			got := support.Foot(lineOf(l), vecOf(v))
			foot := vec{numberOf(got.X), numberOf(got.Y)}
			if foot.minus(v).dot(b.minus(a)).Sign() != 0 {
				t.Fatalf("P8.2: the way from %v to its foot %v on %v is not perpendicular", v, foot, l)
			}
			if support.Side(lineOf(l), point.At(got)) != 0 {
				t.Fatalf("P8.2: the foot %v of %v is not on %v", foot, v, l)
			}
			if !sameVec(support.Foot(lineOf(l), got), got) {
				t.Fatalf("P8.2: the foot of the foot of %v on %v is another one", v, l)
			}
		}
	}
}

func TestOrderOfThreePoints(t *testing.T) {
	r := rand.New(rand.NewSource(9))
	list := vectors()
	for range 1000 {
		v := [3]vec{list[r.Intn(len(list))], list[r.Intn(len(list))], list[r.Intn(len(list))]}
		circle, e := support.CircleThrough(vecOf(v[0]), vecOf(v[1]), vecOf(v[2]))
		for _, i := range [][3]int{{0, 2, 1}, {1, 0, 2}, {1, 2, 0}, {2, 0, 1}, {2, 1, 0}} {
			got, f := support.CircleThrough(vecOf(v[i[0]]), vecOf(v[i[1]]), vecOf(v[i[2]]))
			if f != e || !sameCircle(got, circle) || !v[0].isStraight(v[1], v[2]) && !support.SameCircle(got, circle) {
				t.Fatalf("P8.2: the circle through %v, %v and %v depends on their order: %v, %v", v[0], v[1], v[2], circle, got)
			}
		}
	}
}

// The line through two points is the same one in both directions, with its sides exchanged.
func TestReversedLines(t *testing.T) {
	r := rand.New(rand.NewSource(10))
	list, points := vectors(), places()
	for range 1000 {
		a, b := list[r.Intn(len(list))], list[r.Intn(len(list))]
		if a.equals(b) {
			continue
		}
		there, _ := support.Through(vecOf(a), vecOf(b))
		back, _ := support.Through(vecOf(b), vecOf(a))
		if !support.SameLine(there, back) {
			t.Fatalf("P8.2: the line through %v and %v depends on their order", a, b)
		}
		for _, p := range points {
			if support.Side(there, pointOf(p)) != -support.Side(back, pointOf(p)) {
				t.Fatalf("P8.2: %v is on the same side of both ways between %v and %v", p, a, b)
			}
		}
	}
}
