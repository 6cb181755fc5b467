package root

import (
	"swarf/api"
	"swarf/rational"
)

// Neg returns -r.
func Neg(r api.Root) api.Root {
	return reduced(rational.Neg(r.A), rational.Neg(r.B), r.C)
}

// Scale returns k r.
func Scale(r api.Root, k api.Rat) api.Root {
	return reduced(rational.Mul(r.A, k), rational.Mul(r.B, k), r.C)
}

// Add returns r + s, if they have a common radicand.
func Add(r, s api.Root) (api.Root, api.Errno) {
	c, ok := commonRadicand(r, s)
	if !ok {
		return api.Root{}, api.ErrInvalid
	}
	return reduced(rational.Add(r.A, s.A), rational.Add(r.B, s.B), c), api.OK
}

// Mul returns r s, if they have a common radicand.
func Mul(r, s api.Root) (api.Root, api.Errno) {
	c, ok := commonRadicand(r, s)
	switch {
	case !ok:
		return api.Root{}, api.ErrInvalid
	case isRational(r):
		return Scale(s, r.A), api.OK
	case isRational(s):
		return Scale(r, s.A), api.OK
	}
	a := rational.Add(rational.Mul(r.A, s.A), rational.Mul(rational.Mul(r.B, s.B), c))
	b := rational.Add(rational.Mul(r.A, s.B), rational.Mul(r.B, s.A))
	return reduced(a, b, c), api.OK
}

// Inv returns 1 / r.
func Inv(r api.Root) (api.Root, api.Errno) {
	// The product of r and its conjugate A - B sqrt(C) is rational. It is 0 only if r is 0, since C is not a square.
	product := rational.Sub(rational.Mul(r.A, r.A), rational.Mul(rational.Mul(r.B, r.B), r.C))
	factor, e := rational.Div(rational.FromInt64(1), product)
	if e != api.OK {
		return api.Root{}, e
	}
	return Scale(api.Root{A: r.A, B: rational.Neg(r.B), C: r.C}, factor), api.OK
}

// commonRadicand returns the radicand that r and s have in common; if one of them is rational, it is that of the other one.
func commonRadicand(r, s api.Root) (api.Rat, bool) {
	switch {
	case isRational(r):
		return s.C, true
	case isRational(s) || equal(r.C, s.C):
		return r.C, true
	}
	return api.Rat{}, false
}
