package rational

import (
	"strings"

	"swarf/api"
	"swarf/integer"
)

const (
	limbDigits  = 9    // decimal digits of a limb
	pieceLimbs  = 7000 // limbs of a piece of a long text
	pieceDigits = pieceLimbs * limbDigits
)

// Format returns the text of the numerator, followed by a slash and that of the denominator unless this is 1.
func Format(a api.Rat) string {
	if isOne(a.Den) {
		return integer.Format(a.Num)
	}
	return integer.Format(a.Num) + "/" + integer.Format(a.Den)
}

// Parse returns the number with a text.
func Parse(s string) (api.Rat, api.Errno) {
	numText, denText, slash := strings.Cut(s, "/")
	if !slash {
		denText = "1"
	}
	num, numOK := parseInteger(numText)
	den, denOK := parseInteger(denText)
	a := api.Rat{Num: num, Den: den}
	if !numOK || !denOK || slash && isOne(den) || !Valid(a) {
		return api.Rat{}, api.ErrSyntax
	}
	return a, api.OK
}

// parseInteger returns the integer with a text. The numbers of this layer have texts of any length, but integer.Parse reads only MaxText bytes; so it reads longer texts in pieces.
func parseInteger(s string) (api.Int, bool) {
	var low []uint32
	for len(s) > api.MaxText {
		cut := len(s) - pieceDigits
		// The 1 allows zeros at the beginning of a piece; its own limb is dropped.
		piece, e := integer.Parse("1" + s[cut:])
		if e != api.OK {
			return api.Int{}, false
		}
		low = append(low, piece.Limbs[:pieceLimbs]...)
		s = s[:cut]
	}
	high, e := integer.Parse(s)
	if e != api.OK {
		return api.Int{}, false
	}
	return api.Int{Neg: high.Neg, Limbs: append(low, high.Limbs...)}, true
}
