package integer

import (
	"math/bits"
	"slices"

	"swarf/api"
)

// DivMod returns the quotient, rounded down, and the remainder.
func DivMod(a, b api.Int) (api.Int, api.Int, api.Errno) {
	if len(b.Limbs) == 0 {
		return api.Int{}, api.Int{}, api.ErrZero
	}
	if !Valid(a) || !Valid(b) {
		return api.Int{}, api.Int{}, api.ErrInvalid
	}
	quotient, rest := divideLimbs(a.Limbs, b.Limbs)
	if a.Neg != b.Neg && len(rest) != 0 {
		// The absolute value of the quotient was rounded down, but the quotient is negative.
		quotient = addLimbs(quotient, []uint32{1})
		rest = subtractLimbs(b.Limbs, rest)
	}
	return signed(a.Neg != b.Neg, quotient), signed(b.Neg, rest), api.OK
}

// divideLimbs returns the quotient and the remainder of x and y, which is not 0.
func divideLimbs(x, y []uint32) ([]uint32, []uint32) {
	switch {
	case len(x) < len(y):
		return nil, slices.Clone(x)
	case len(x) <= 2:
		m, n := valueOf(x), valueOf(y)
		return limbsOf(m / n), limbsOf(m % n)
	case len(y) == 1:
		quotient, rest := divideShort(x, y[0])
		return quotient, limbsOf(uint64(rest))
	}
	return divideLong(x, y)
}

// divideShort divides x by a limb.
func divideShort(x []uint32, y uint32) ([]uint32, uint32) {
	quotient := make([]uint32, len(x))
	var rest uint64
	for i := len(x) - 1; i >= 0; i-- {
		rest = rest*Base + uint64(x[i])
		quotient[i] = uint32(rest / uint64(y))
		rest %= uint64(y)
	}
	return trim(quotient), uint32(rest)
}

// divideLong divides x by y, which has at least two limbs and not more than x.
func divideLong(x, y []uint32) ([]uint32, []uint32) {
	n := len(y)
	rest := make([]uint32, len(x)+1)
	copy(rest, x)
	quotient := make([]uint32, len(x)-n+1)
	for j := len(quotient) - 1; j >= 0; j-- {
		part := rest[j : j+n+1]
		q := estimate(part, y)
		if subtractMultiple(part, y, q) {
			q--
			addBack(part, y)
		}
		quotient[j] = uint32(q)
	}
	return trim(quotient), trim(rest[:n])
}

// estimate returns the quotient of part and y, which is a limb, or a number that is greater by 1. The number with the last two limbs of y is at least Base, and thus the quotient of the last limbs is never farther off.
func estimate(part, y []uint32) uint64 {
	n := len(y)
	high, low := split(part[n-2:])
	q, _ := bits.Div64(high, low, valueOf(y[n-2:]))
	return q
}

// subtractMultiple subtracts q * y from part, and reports whether the result is negative. It leaves the last limb of part as it is, since the right remainder has no more limbs than y.
func subtractMultiple(part, y []uint32, q uint64) bool {
	var carry uint64
	for i, limb := range y {
		product := q*uint64(limb) + carry
		carry = product / Base
		low := uint32(product % Base)
		if part[i] < low {
			part[i] += Base
			carry++
		}
		part[i] -= low
	}
	return uint64(part[len(y)]) < carry
}

// addBack adds y to the limbs of part, without the last carry, which makes up for the borrow of subtractMultiple.
func addBack(part, y []uint32) {
	var carry uint32
	for i, limb := range y {
		part[i] += limb + carry
		carry = 0
		if part[i] >= Base {
			part[i] -= Base
			carry = 1
		}
	}
}
