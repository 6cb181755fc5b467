package point

import (
	"swarf/api"
	"swarf/radical"
	"swarf/rational"
	"swarf/root"
)

// Translate returns p + v.
func Translate(p api.Point, v api.Vec) api.Point {
	return api.Point{
		AX: rational.Add(p.AX, v.X),
		BX: clone(p.BX),
		AY: rational.Add(p.AY, v.Y),
		BY: clone(p.BY),
		C:  clone(p.C),
	}
}

// Square returns the square of the distance of a point from a rational one.
func Square(p api.Point, v api.Vec) api.Root {
	dx, dy := rational.Sub(p.AX, v.X), rational.Sub(p.AY, v.Y)
	// The square of d + b sqrt(c) is d^2 + b^2 c + 2 d b sqrt(c).
	a := rational.Add(product(dx, dy, dx, dy), rational.Mul(product(p.BX, p.BY, p.BX, p.BY), p.C))
	b := product(dx, dy, p.BX, p.BY)
	return coordinate(a, rational.Add(b, b), clone(p.C))
}

// product returns the scalar product of the vectors (x, y) and (u, v).
func product(x, y, u, v api.Rat) api.Rat {
	return rational.Add(rational.Mul(x, u), rational.Mul(y, v))
}

// Near returns a rational point whose coordinates differ by at most tol.
func Near(p api.Point, tol api.Rat) (api.Vec, api.Errno) {
	if rational.Sign(tol) <= 0 {
		return api.Vec{}, api.ErrInvalid
	}
	x, xError := near(xOf(p), tol)
	y, yError := near(yOf(p), tol)
	if xError != api.OK || yError != api.OK {
		// So it is only for points that are not in reduced form.
		return api.Vec{}, api.ErrInvalid
	}
	return api.Vec{X: x, Y: y}, api.OK
}

// near returns a rational number that differs from r by at most tol, which is positive. If r is not rational, it is the simplest one, since later calculations are the faster the shorter their numbers are.
func near(r api.Root, tol api.Rat) (api.Rat, api.Errno) {
	if value, ok := root.Rational(r); ok {
		return value, api.OK
	}
	low := api.Root{A: rational.Sub(r.A, tol), B: r.B, C: r.C}
	high := api.Root{A: rational.Add(r.A, tol), B: r.B, C: r.C}
	return radical.Between(low, high)
}
