package rational_test

import (
	"strings"
	"testing"

	"swarf/api"
	"swarf/rational"
)

func TestFormat(t *testing.T) {
	for _, x := range samples() {
		if got := rational.Format(ratOf(x)); got != x.RatString() {
			t.Errorf("P2.1: Format of %v: got %s", x, got)
		}
	}
}

func TestParse(t *testing.T) {
	for _, x := range samples() {
		got, e := rational.Parse(x.RatString())
		if e != api.OK {
			t.Fatalf("P2.1: Parse of %v: %v", x, e)
		}
		check(t, got, x, "Parse", x)
	}
}

func TestParseFails(t *testing.T) {
	for _, s := range []string{"", "/", "-", "-/", "/1", "/2", "1/", "-1/", "1//2", "1/2/3", "1/2/", "/1/2", "2/4", "-2/4", "3/3", "3/1", "0/1", "-3/1", "-0", "-0/1", "0/2", "-0/2", "1/0", "0/0", "-1/0", "1/-2", "-1/-2", "1/+2", "+1/2", "+1", "01", "01/2", "1/02", "1/2 ", " 1/2", "1 /2", "1/ 2", "1/2\n", "1.5", "1.5/2", "1/2.5", "1e3", "0x1/2", "1_0/3", "a", "a/b", "1/a", "1\\2", "1:2", "\x00", "1/2\x00", "\uff11/2", "1\u20442", "6000000000000000000000/4500000000000000000000", "2000000000/" + nines(9) + "8", nines(30) + "/1"} {
		if got, e := rational.Parse(s); e != api.ErrSyntax || !same(got, api.Rat{}) {
			t.Errorf("P2.1: Parse of %q: got %v, %v", s, got, e)
		}
	}
}

// The chapter gives no limit for the texts of this layer.
func TestLongTexts(t *testing.T) {
	zeros := strings.Repeat("0", api.MaxText)
	for _, s := range []string{
		nines(api.MaxText),
		nines(api.MaxText + 1),
		"-" + nines(api.MaxText),
		"1" + zeros,
		"-1" + zeros + "/3",
		"2/" + nines(api.MaxText+1),
		"1" + zeros + "/1" + zeros[1:] + "1",
		"12345" + strings.Repeat("0123456789", 30000) + zeros + zeros + "7",
	} {
		a, e := rational.Parse(s)
		if e != api.OK || !rational.Valid(a) || rational.Format(a) != s {
			t.Errorf("P2.2: Parse of a text of %d bytes: %v", len(s), e)
		}
	}
	for _, s := range []string{
		"0" + zeros,
		"-0" + zeros,
		"0" + nines(api.MaxText),
		"-" + zeros + "1",
		"+" + nines(api.MaxText),
		"-" + zeros + zeros,
		"--1" + zeros,
		"1" + zeros + "x",
		"x1" + zeros,
		"1-" + zeros,
		"1" + zeros + "-" + zeros,
		"1" + zeros + "/1",
		"1" + zeros + "/10",
		"1" + zeros + "/",
		"/1" + zeros,
		"1/0" + nines(api.MaxText),
		"1/-" + nines(api.MaxText),
		strings.Repeat("/", 2*api.MaxText),
		strings.Repeat(" ", 2*api.MaxText),
	} {
		if a, e := rational.Parse(s); e != api.ErrSyntax || !same(a, api.Rat{}) {
			t.Errorf("P2.1: Parse of a text of %d bytes that begins with %.20q: %v", len(s), s, e)
		}
	}
}
