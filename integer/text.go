package integer

import (
	"strconv"
	"strings"

	"swarf/api"
)

// groupSize is the number of decimal digits of a limb.
const groupSize = 9

// Format returns the decimal digits, behind a minus sign if a is negative.
func Format(a api.Int) string {
	n := len(a.Limbs)
	if n == 0 {
		return "0"
	}
	text := make([]byte, 0, 1+n*groupSize)
	if a.Neg {
		text = append(text, '-')
	}
	text = strconv.AppendUint(text, uint64(a.Limbs[n-1]), 10)
	for i := n - 2; i >= 0; i-- {
		text = appendGroup(text, a.Limbs[i])
	}
	return string(text)
}

// appendGroup appends all digits of a limb, with zeros at the beginning.
func appendGroup(text []byte, limb uint32) []byte {
	var group [groupSize]byte
	for i := groupSize - 1; i >= 0; i-- {
		group[i] = '0' + byte(limb%10)
		limb /= 10
	}
	return append(text, group[:]...)
}

// Parse returns the integer with a decimal text.
func Parse(s string) (api.Int, api.Errno) {
	digits, neg := strings.CutPrefix(s, "-")
	if len(s) > api.MaxText || !isNumeral(digits) || neg && digits == "0" {
		return api.Int{}, api.ErrSyntax
	}
	limbs := make([]uint32, (len(digits)+groupSize-1)/groupSize)
	for i := range limbs {
		end := len(digits) - i*groupSize
		limbs[i] = groupValue(digits[max(0, end-groupSize):end])
	}
	return signed(neg, limbs), api.OK
}

// isNumeral reports whether s consists of digits, without a 0 at the beginning unless it is "0".
func isNumeral(s string) bool {
	if s == "" || s[0] == '0' && len(s) > 1 {
		return false
	}
	for i := range len(s) {
		if s[i] < '0' || s[i] > '9' {
			return false
		}
	}
	return true
}

// groupValue returns the value of at most nine digits.
func groupValue(digits string) uint32 {
	var value uint32
	for i := range len(digits) {
		value = value*10 + uint32(digits[i]-'0')
	}
	return value
}
