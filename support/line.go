package support

import (
	"swarf/api"
	"swarf/rational"
	"swarf/root"
)

// Through returns the line through two points.
func Through(a, b api.Vec) (api.Line, api.Errno) {
	n := api.Vec{X: rational.Sub(a.Y, b.Y), Y: rational.Sub(b.X, a.X)}
	if isNull(n) {
		return api.Line{}, api.ErrZero
	}
	return api.Line{A: n.X, B: n.Y, C: dot(n, a)}, api.OK
}

// ValidLine reports whether l is a line, for any fields.
func ValidLine(l api.Line) bool { return allValid(l.A, l.B, l.C) && !isNull(normal(l)) }

// SameLine reports whether two lines contain the same points.
func SameLine(l, m api.Line) bool {
	// So it is exactly if their fields are proportional.
	return isZero(determinant(l.A, l.B, m.A, m.B)) &&
		isZero(determinant(l.A, l.C, m.A, m.C)) &&
		isZero(determinant(l.B, l.C, m.B, m.C))
}

// Side returns the sign of A x + B y - C at a point.
func Side(l api.Line, p api.Point) int {
	n := normal(l)
	a := rational.Sub(dot(n, api.Vec{X: p.AX, Y: p.AY}), l.C)
	b := dot(n, api.Vec{X: p.BX, Y: p.BY})
	if isZero(b) {
		return rational.Sign(a)
	}
	return root.Sign(api.Root{A: a, B: b, C: p.C})
}

// Foot returns the point of a line that is nearest to v.
func Foot(l api.Line, v api.Vec) api.Vec {
	n := normal(l)
	factor, e := rational.Div(rational.Sub(l.C, dot(n, v)), dot(n, n))
	if e != api.OK {
		// So it is only for lines that are not valid.
		return api.Vec{}
	}
	return plus(v, times(n, factor))
}

// normal returns the vector (A, B), which is perpendicular to the line; it shares memory with l.
func normal(l api.Line) api.Vec { return api.Vec{X: l.A, Y: l.B} }
