package integer_test

import (
	"strings"
	"testing"

	"swarf/api"
	"swarf/integer"
)

func TestFormat(t *testing.T) {
	for _, x := range samples() {
		if got := integer.Format(fromBig(x)); got != x.String() {
			t.Errorf("P1.1: Format of %v: got %s", x, got)
		}
	}
}

func TestParse(t *testing.T) {
	for _, x := range samples() {
		a, e := integer.Parse(x.String())
		if e != api.OK {
			t.Fatalf("P1.1: Parse of %v: %v", x, e)
		}
		check(t, a, x, "Parse", x)
	}
}

func TestParseFails(t *testing.T) {
	for _, s := range []string{"", "-", "-0", "00", "01", "-01", "-00", "+1", "+0", "+", "--1", "1-", " 1", "1 ", "1\n", "\t1", "1.0", "1,000", "1_000", "1e3", "0x10", "a", "1a1", "/", ":", "12345678/", "1:345678901", "\x00", "1\x00", "\xb1", "\uff11", "\u0661", "\u22121", "0" + nines(9), "0000000000", "nil", "inf"} {
		if a, e := integer.Parse(s); e != api.ErrSyntax || !same(a, api.Int{}) {
			t.Errorf("P1.1: Parse of %q: got %v, %v", s, a, e)
		}
	}
}

func TestParseLimit(t *testing.T) {
	for _, s := range []string{nines(api.MaxText), "-" + nines(api.MaxText-1), "1" + strings.Repeat("0", api.MaxText-1)} {
		if a, e := integer.Parse(s); e != api.OK || !integer.Valid(a) || integer.Format(a) != s {
			t.Errorf("P1.1: Parse of a text of %d bytes: %v", len(s), e)
		}
	}
	for _, s := range []string{nines(api.MaxText + 1), "-" + nines(api.MaxText), strings.Repeat("0", api.MaxText+1), strings.Repeat(" ", 2*api.MaxText)} {
		if a, e := integer.Parse(s); e != api.ErrSyntax || !same(a, api.Int{}) {
			t.Errorf("P1.1: Parse of a text of %d bytes: %v", len(s), e)
		}
	}
}
