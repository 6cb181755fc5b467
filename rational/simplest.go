package rational

import (
	"swarf/api"
	"swarf/integer"
)

// Simplest returns the number with the least denominator strictly between a and b, and of several ones the one with the least absolute value.
func Simplest(a, b api.Rat) (api.Rat, api.Errno) {
	switch {
	case !Valid(a) || !Valid(b) || Cmp(a, b) >= 0:
		return api.Rat{}, api.ErrInvalid
	case Sign(a) >= 0:
		return simplestPositive(a, b), api.OK
	case Sign(b) <= 0:
		return Neg(simplestPositive(Neg(b), Neg(a))), api.OK
	}
	return FromInt64(0), api.OK
}

// simplestPositive returns the simplest number between low, which is not negative, and high. Its continued fraction begins with the terms that those of low and high have in common; the last term is the least possible one.
func simplestPositive(low, high api.Rat) api.Rat {
	// These are the last two convergents of the continued fraction.
	last := api.Rat{Num: one(), Den: integer.FromInt64(0)}
	before := api.Rat{Num: integer.FromInt64(0), Den: one()}
	for {
		floor, rest, _ := integer.DivMod(low.Num, low.Den)
		// From the second step on, high can have the denominator 0: then it is infinite.
		next := integer.Add(floor, one())
		if integer.Cmp(integer.Mul(next, high.Den), high.Num) < 0 {
			return convergent(last, before, next)
		}
		before, last = last, convergent(last, before, floor)
		// No integer lies between low and high. So a number between them is the sum of floor and the inverse of a number between the inverses of their remainders.
		highRest := integer.Sub(high.Num, integer.Mul(floor, high.Den))
		low, high = api.Rat{Num: high.Den, Den: highRest}, api.Rat{Num: low.Den, Den: rest}
	}
}

// convergent returns the convergent that follows the last two ones with the next term.
func convergent(last, before api.Rat, term api.Int) api.Rat {
	return api.Rat{
		Num: integer.Add(integer.Mul(term, last.Num), before.Num),
		Den: integer.Add(integer.Mul(term, last.Den), before.Den),
	}
}
