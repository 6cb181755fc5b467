package root

import (
	"swarf/api"
	"swarf/integer"
	"swarf/rational"
)

// maxBits is the greatest precision of Enclose.
const maxBits = 256

// Sign returns the sign of the value.
func Sign(r api.Root) int {
	a, b := rational.Sign(r.A), rational.Sign(r.B)
	switch {
	case b == 0:
		return a
	case a != -b:
		return b
	}
	// The signs of A and B sqrt(C) differ, and the one with the greater square decides. With a common denominator, only integers are left to compare.
	left := integer.Mul(square(integer.Mul(r.A.Num, r.B.Den)), r.C.Den)
	right := integer.Mul(square(integer.Mul(r.B.Num, r.A.Den)), r.C.Num)
	return a * integer.Cmp(left, right)
}

// Floor returns the greatest integer that is not greater than the value.
func Floor(r api.Root) api.Int {
	if isRational(r) {
		return rational.Floor(r.A)
	}
	// With the product of the denominators as the common one, the numerator of A is an integer, and that of B sqrt(C) the square root of one. The latter can be rounded down before the division, since the quotient by a positive integer reaches an integer only where its numerator is an integer too.
	scale := integer.Mul(r.B.Den, r.C.Den)
	radicand := integer.Mul(square(integer.Mul(r.B.Num, r.A.Den)), integer.Mul(r.C.Num, r.C.Den))
	num := integer.Add(integer.Mul(r.A.Num, scale), floorOfRoot(radicand, rational.Sign(r.B) < 0))
	floor, _, _ := integer.DivMod(num, integer.Mul(r.A.Den, scale))
	return floor
}

// floorOfRoot returns the square root of n, which is not a square, or its negative, rounded down.
func floorOfRoot(n api.Int, neg bool) api.Int {
	root, _ := integer.Sqrt(n)
	if neg {
		return integer.Sub(integer.FromInt64(-1), root)
	}
	return root
}

// Enclose returns an interval that contains the value, with a width of at most 2^-bits.
func Enclose(r api.Root, bits int) (api.Interval, api.Errno) {
	if bits < 0 || bits > maxBits {
		return api.Interval{}, api.ErrInvalid
	}
	if isRational(r) {
		return api.Interval{Low: clone(r.A), High: clone(r.A)}, api.OK
	}
	power := powerOfTwo(bits)
	floor := Floor(Scale(r, api.Rat{Num: power, Den: integer.FromInt64(1)}))
	low, _ := rational.Make(floor, power)
	high, _ := rational.Make(integer.Add(floor, integer.FromInt64(1)), power)
	return api.Interval{Low: low, High: high}, api.OK
}

// powerOfTwo returns 2^n.
func powerOfTwo(n int) api.Int {
	const step = 62 // the greatest power of two that is an int64
	power := integer.FromInt64(1)
	for ; n > step; n -= step {
		power = integer.Mul(power, integer.FromInt64(1<<step))
	}
	return integer.Mul(power, integer.FromInt64(1<<n))
}

// square returns n^2.
func square(n api.Int) api.Int { return integer.Mul(n, n) }
