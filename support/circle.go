package support

import (
	"swarf/api"
	"swarf/point"
	"swarf/rational"
	"swarf/root"
)

// ValidCircle reports whether c is a circle with a positive radius, for any fields.
func ValidCircle(c api.Circle) bool { return allValid(c.X, c.Y, c.Q) && rational.Sign(c.Q) > 0 }

// SameCircle reports whether two circles contain the same points.
func SameCircle(c, d api.Circle) bool {
	return rational.Cmp(c.X, d.X) == 0 && rational.Cmp(c.Y, d.Y) == 0 && rational.Cmp(c.Q, d.Q) == 0
}

// Inside returns 1 inside of a circle, 0 on it, and -1 outside.
func Inside(c api.Circle, p api.Point) int {
	power := point.Square(p, api.Vec{X: c.X, Y: c.Y})
	power.A = rational.Sub(power.A, c.Q)
	return -root.Sign(power)
}

// CircleThrough returns the circle through three points.
func CircleThrough(a, b, c api.Vec) (api.Circle, api.Errno) {
	u, v := minus(b, a), minus(c, a)
	area := determinant(u.X, u.Y, v.X, v.Y)
	if isZero(area) {
		return api.Circle{}, api.ErrZero
	}
	// The vector w from a to the center ends on the perpendicular bisectors of u and v, which contain the points with 2 u w = u u and 2 v w = v v.
	uu, vv := dot(u, u), dot(v, v)
	factor, _ := rational.Div(rational.Frac(1, 2), area)
	w := times(api.Vec{X: determinant(uu, u.Y, vv, v.Y), Y: determinant(u.X, uu, v.X, vv)}, factor)
	center := plus(a, w)
	return api.Circle{X: center.X, Y: center.Y, Q: dot(w, w)}, api.OK
}
