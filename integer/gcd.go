package integer

import (
	"slices"

	"swarf/api"
)

// GCD returns the greatest common divisor, not negative.
func GCD(a, b api.Int) api.Int {
	if !Valid(a) || !Valid(b) {
		return api.Int{}
	}
	x, y := a.Limbs, b.Limbs
	if compareLimbs(x, y) < 0 {
		x, y = y, x
	}
	for len(y) > 2 {
		x, y = reduce(x, y)
	}
	if len(y) == 0 {
		return signed(false, slices.Clone(x))
	}
	_, rest := divideLimbs(x, y)
	return signed(false, limbsOf(gcdSmall(valueOf(y), valueOf(rest))))
}

// gcdSmall is Euclid's algorithm.
func gcdSmall(x, y uint64) uint64 {
	for y != 0 {
		x, y = y, x%y
	}
	return x
}

// reduce does one or more steps of Euclid's algorithm with x and y, which is not greater and has at least three limbs.
func reduce(x, y []uint32) ([]uint32, []uint32) {
	s := leadingSteps(x, y)
	if s.b == 0 {
		_, rest := divideLimbs(x, y)
		return y, rest
	}
	return combine(x, y, s.a, s.b), combine(x, y, s.c, s.d)
}

// steps lead from x and y to a x + b y and c x + d y.
type steps struct{ a, b, c, d int64 }

// leadingSteps returns the steps of Euclid's algorithm that follow from the last two limbs of x and the limbs of y above them (Lehmer's algorithm); b is 0 if it finds none.
func leadingSteps(x, y []uint32) steps {
	n := len(x) - 2
	high := int64(valueOf(x[n:]))
	var low int64
	if n < len(y) {
		low = int64(valueOf(y[n:]))
	}
	s := steps{a: 1, d: 1}
	for low+s.c > 0 && low+s.d > 0 {
		// A quotient is certain if both ends of the range of the values have it.
		q := (high + s.a) / (low + s.c)
		if q != (high+s.b)/(low+s.d) {
			break
		}
		// The new factors are below the new high number; times this number, they are at most the first one, which is below Base^2. So they are below Base.
		s = steps{a: s.c, b: s.d, c: s.a - q*s.c, d: s.b - q*s.d}
		high, low = low, high-q*low
	}
	return s
}

// combine returns p x + q y, which is from 0 to x; p and q have different signs and absolute values below Base, so that no sum overflows.
func combine(x, y []uint32, p, q int64) []uint32 {
	z := make([]uint32, len(x))
	var carry int64
	for i := range z {
		total := carry + p*int64(x[i])
		if i < len(y) {
			total += q * int64(y[i])
		}
		carry = total / Base
		limb := total % Base
		if limb < 0 {
			limb += Base
			carry--
		}
		z[i] = uint32(limb)
	}
	return trim(z)
}
