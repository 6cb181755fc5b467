package radical

import (
	"swarf/api"
	"swarf/integer"
	"swarf/rational"
	"swarf/root"
)

// Between returns the simplest rational number strictly between two values, the first one being less.
func Between(a, b api.Root) (api.Rat, api.Errno) {
	if !root.Valid(a) || !root.Valid(b) || Cmp(a, b) >= 0 {
		return api.Rat{}, api.ErrInvalid
	}
	// Numbers that lie outside, but are simpler than all those between a and b, are finitely many: bounds that are near enough exclude them.
	for power := integer.FromInt64(1 << 16); ; power = square(power) {
		simplest, e := rational.Simplest(lowerBound(a, power), rational.Neg(lowerBound(root.Neg(b), power)))
		if e != api.OK || CmpRat(a, simplest) < 0 && CmpRat(b, simplest) > 0 {
			return simplest, e
		}
	}
}

// lowerBound returns a rational number that is at most r and greater than r - 1 / power, and r itself if it is rational.
func lowerBound(r api.Root, power api.Int) api.Rat {
	if isRational(r) {
		return r.A
	}
	scale := api.Rat{Num: power, Den: integer.FromInt64(1)}
	bound, _ := rational.Make(root.Floor(root.Scale(r, scale)), power)
	return bound
}
