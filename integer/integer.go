// Package integer is layer 1: integers of any size, in limbs of nine decimal digits.
package integer

import (
	"cmp"
	"math/bits"
	"slices"

	"swarf/api"
)

// Base is the base of the limbs.
const Base = 1000000000

// Valid reports whether a is in normal form, for any a.
func Valid(a api.Int) bool {
	n := len(a.Limbs)
	if n == 0 {
		return !a.Neg
	}
	for _, limb := range a.Limbs {
		if limb >= Base {
			return false
		}
	}
	return a.Limbs[n-1] != 0
}

// FromInt64 returns n.
func FromInt64(n int64) api.Int {
	if n < 0 {
		// The conversion comes first, since -2^63 has no negative in int64.
		return signed(true, limbsOf(-uint64(n)))
	}
	return signed(false, limbsOf(uint64(n)))
}

// Int64 returns a and true if a fits into an int64, and otherwise 0 and false.
func Int64(a api.Int) (int64, bool) {
	n := len(a.Limbs)
	// Up to 9 * Base^2 and the limbs below, the value fits into an uint64.
	if n > 3 || n == 3 && a.Limbs[2] > 9 {
		return 0, false
	}
	size := valueOf(a.Limbs)
	switch {
	case a.Neg && size <= 1<<63:
		return int64(-size), true
	case !a.Neg && size < 1<<63:
		return int64(size), true
	}
	return 0, false
}

// Sign returns -1, 0 or 1.
func Sign(a api.Int) int {
	if len(a.Limbs) == 0 {
		return 0
	}
	if a.Neg {
		return -1
	}
	return 1
}

// Cmp returns the sign of a - b.
func Cmp(a, b api.Int) int {
	if c := cmp.Compare(Sign(a), Sign(b)); c != 0 {
		return c
	}
	if a.Neg {
		return compareLimbs(b.Limbs, a.Limbs)
	}
	return compareLimbs(a.Limbs, b.Limbs)
}

// Add returns a + b.
func Add(a, b api.Int) api.Int {
	return sum(a.Neg, a.Limbs, b.Neg, b.Limbs)
}

// Sub returns a - b.
func Sub(a, b api.Int) api.Int {
	return sum(a.Neg, a.Limbs, !b.Neg, b.Limbs)
}

// Neg returns -a.
func Neg(a api.Int) api.Int {
	return signed(!a.Neg, slices.Clone(a.Limbs))
}

// Mul returns a * b.
func Mul(a, b api.Int) api.Int {
	return signed(a.Neg != b.Neg, multiplyLimbs(a.Limbs, b.Limbs))
}

// signed returns the valid integer with a sign and an absolute value, which it keeps.
func signed(neg bool, limbs []uint32) api.Int {
	limbs = trim(limbs)
	if len(limbs) == 0 {
		return api.Int{}
	}
	return api.Int{Neg: neg, Limbs: limbs}
}

// sum returns the sum of two integers; 0 may have either sign here.
func sum(xNeg bool, x []uint32, yNeg bool, y []uint32) api.Int {
	if xNeg == yNeg {
		return signed(xNeg, addLimbs(x, y))
	}
	switch compareLimbs(x, y) {
	case 1:
		return signed(xNeg, subtractLimbs(x, y))
	case -1:
		return signed(yNeg, subtractLimbs(y, x))
	}
	return api.Int{}
}

// trim drops the zeros behind the last limb.
func trim(limbs []uint32) []uint32 {
	n := len(limbs)
	for n > 0 && limbs[n-1] == 0 {
		n--
	}
	return limbs[:n]
}

// limbsOf returns the limbs of n.
func limbsOf(n uint64) []uint32 {
	return trim([]uint32{uint32(n % Base), uint32(n / Base % Base), uint32(n / Base / Base)})
}

// valueOf returns the number with at most two limbs, or three if the last one is at most 9.
func valueOf(limbs []uint32) uint64 {
	var n uint64
	for i := len(limbs) - 1; i >= 0; i-- {
		n = n*Base + uint64(limbs[i])
	}
	return n
}

// compareLimbs returns the sign of x - y.
func compareLimbs(x, y []uint32) int {
	if c := cmp.Compare(len(x), len(y)); c != 0 {
		return c
	}
	for i := len(x) - 1; i >= 0; i-- {
		if c := cmp.Compare(x[i], y[i]); c != 0 {
			return c
		}
	}
	return 0
}

// addLimbs returns x + y.
func addLimbs(x, y []uint32) []uint32 {
	if len(x) < len(y) {
		x, y = y, x
	}
	z := make([]uint32, len(x)+1)
	var carry uint32
	for i, limb := range x {
		limb += carry
		if i < len(y) {
			limb += y[i]
		}
		carry = 0
		if limb >= Base {
			limb -= Base
			carry = 1
		}
		z[i] = limb
	}
	z[len(x)] = carry
	return trim(z)
}

// subtractLimbs returns x - y, for y not greater than x.
func subtractLimbs(x, y []uint32) []uint32 {
	z := slices.Clone(x)
	borrowed := false
	for i := range z {
		var limb uint32
		if i < len(y) {
			limb = y[i]
		} else if !borrowed {
			break
		}
		if borrowed {
			limb++
		}
		borrowed = z[i] < limb
		if borrowed {
			z[i] += Base
		}
		z[i] -= limb
	}
	return trim(z)
}

// multiplyLimbs returns x * y.
func multiplyLimbs(x, y []uint32) []uint32 {
	// Products are added up limb by limb of the result, so that each limb needs one division only. Their sum is kept below fold + Base^2, which fits into an uint64.
	const fold = 8 * Base * Base
	z := make([]uint32, len(x)+len(y))
	var carry uint64
	for k := range z {
		total, folded := carry, uint64(0)
		first, end := max(0, k-len(y)+1), min(k+1, len(x))
		for i := first; i < end; i++ {
			total += uint64(x[i]) * uint64(y[k-i])
			if total >= fold {
				total -= fold
				folded += fold / Base
			}
		}
		z[k] = uint32(total % Base)
		carry = total/Base + folded
	}
	return trim(z)
}

// split returns the upper and the lower half of the number with at most four limbs in 128 bits.
func split(limbs []uint32) (uint64, uint64) {
	if len(limbs) <= 2 {
		return 0, valueOf(limbs)
	}
	high, low := bits.Mul64(valueOf(limbs[2:]), Base*Base)
	low, carry := bits.Add64(low, valueOf(limbs[:2]), 0)
	return high + carry, low
}
