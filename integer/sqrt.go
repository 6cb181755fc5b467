package integer

import (
	"math/bits"

	"swarf/api"
)

// Sqrt returns the square root, rounded down.
func Sqrt(a api.Int) (api.Int, api.Errno) {
	if a.Neg {
		return api.Int{}, api.ErrNegative
	}
	if !Valid(a) {
		return api.Int{}, api.ErrInvalid
	}
	return signed(false, sqrtLimbs(a.Limbs)), api.OK
}

// sqrtLimbs returns the square root of x, rounded down.
func sqrtLimbs(x []uint32) []uint32 {
	if len(x) <= 4 {
		return limbsOf(sqrtSmall(split(x)))
	}
	// The root of the last limbs, increased by 1, begins a sequence that descends to the root of all of them. Half of the limbs give half of the digits; the first step makes nearly all of the others right.
	drop := (len(x) - 1) / 4
	first := addLimbs(sqrtLimbs(x[2*drop:]), []uint32{1})
	root := append(make([]uint32, drop), first...)
	for {
		next := newton(x, root)
		if compareLimbs(next, root) >= 0 {
			return root
		}
		root = next
	}
}

// newton returns (root + x / root) / 2, rounded down.
func newton(x, root []uint32) []uint32 {
	quotient, _ := divideLimbs(x, root)
	half, _ := divideShort(addLimbs(root, quotient), 2)
	return half
}

// sqrtSmall returns the square root of the number with at most 120 bits that has these halves, rounded down.
func sqrtSmall(high, low uint64) uint64 {
	if high == 0 && low == 0 {
		return 0
	}
	length := bits.Len64(low)
	if high != 0 {
		length = 64 + bits.Len64(high)
	}
	// Newton's sequence descends to the root from any greater number.
	root := uint64(1) << ((length + 1) / 2)
	for {
		quotient, _ := bits.Div64(high, low, root)
		next := (root + quotient) / 2
		if next >= root {
			return root
		}
		root = next
	}
}
