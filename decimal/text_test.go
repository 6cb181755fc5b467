package decimal_test

import (
	"math"
	"math/big"
	"regexp"
	"strings"
	"testing"

	"swarf/api"
	"swarf/decimal"
	"swarf/rational"
)

var decimalText = regexp.MustCompile(`^-?(0|[1-9][0-9]*)(\.[0-9]{1,30})?$`)

// isDecimalText decides by the definition.
func isDecimalText(s string) bool {
	return len(s) <= api.MaxText && decimalText.MatchString(s) && (s[0] != '-' || strings.ContainsAny(s, "123456789"))
}

// checkParse compares the number with a text with the right one, or the error.
func checkParse(t *testing.T, s string) {
	t.Helper()
	got, e := decimal.Parse(s)
	if !isDecimalText(s) {
		if e != api.ErrSyntax || !same(got, api.Rat{}) {
			t.Fatalf("P6.1: Parse of %.60q with %d bytes: got %v, %v", s, len(s), got, e)
		}
		return
	}
	if e != api.OK || !same(got, ratOf(number(s))) || !rational.Valid(got) {
		t.Fatalf("P6.1: Parse of %.60q with %d bytes: got %v, %v", s, len(s), got, e)
	}
}

func TestParse(t *testing.T) {
	for s, want := range map[string]string{"0": "0", "7": "7", "-7": "-7", "0.0": "0", "0.5": "1/2", "-0.5": "-1/2", "1.25": "5/4", "1.250": "5/4", "10.00": "10", "-10.010": "-1001/100", "0.000000000000000000000000000001": "1/1" + zeros(30), "9223372036854775808": "9223372036854775808", "-123456789012.0000000005": "-246913578024000000001/2000000000"} {
		if got, e := decimal.Parse(s); e != api.OK || rational.Format(got) != want {
			t.Errorf("P6.1: Parse of %s: got %s, %v, want %s", s, rational.Format(got), e, want)
		}
	}
	for _, s := range []string{"", "-", ".", "-.", "+1", "--1", "-+1", "-0", "-0.0", "-0." + zeros(30), "00", "01", "-01", "00.5", "01.5", ".5", "-.5", "5.", "-5.", "1..5", "1.5.", "1.2.3", "1.-5", "1-", "1.5-", "1,5", "1e3", "1.5e3", "0x1", "1_000", "1/2", "1.5/2", " 1", "1 ", "1. 5", "1\n", "1.5\x00", "\x001", "inf", "NaN", "\uff11", "1.\u0665", "1\u00b75", "\xff", "1.\xff", "0." + zeros(31), "1." + nines(31)} {
		if got, e := decimal.Parse(s); e != api.ErrSyntax || !same(got, api.Rat{}) {
			t.Errorf("P6.1: Parse of %q: got %v, %v", s, got, e)
		}
	}
}

func TestParseShortTexts(t *testing.T) {
	const letters = "-.0159+e "
	var all func(s string, more int)
	all = func(s string, more int) {
		checkParse(t, s)
		for i := 0; i < len(letters) && more > 0; i++ {
			all(s+letters[i:i+1], more-1)
		}
	}
	all("", 5)
	for b := range 256 {
		for _, s := range []string{"", "-", "1", "0", "1.", "-0.", "1.5"} {
			checkParse(t, s+string([]byte{byte(b)}))
			checkParse(t, s+string([]byte{byte(b)})+"2")
		}
	}
}

func TestParseLongTexts(t *testing.T) {
	for n := range 40 {
		for _, s := range []string{"0.", "-0.", "7.", "-" + nines(50) + "."} {
			checkParse(t, s+zeros(n))
			checkParse(t, s+nines(n))
			checkParse(t, s+zeros(n)+"5")
			checkParse(t, s+"5"+zeros(n))
		}
	}
	for _, n := range []int{api.MaxText - 1, api.MaxText, api.MaxText + 1} {
		for _, s := range []string{"", "-", "0", "-0", "1"} {
			checkParse(t, s+nines(n-len(s)))
			checkParse(t, s+zeros(n-len(s)))
			checkParse(t, s+nines(n-len(s)-2)+".5")
			checkParse(t, s+nines(n-len(s)-31)+"."+zeros(29)+"4")
		}
		checkParse(t, "0."+zeros(n-2))
		checkParse(t, strings.Repeat("-", n))
		checkParse(t, strings.Repeat(".", n))
		checkParse(t, nines(n-1)+"x")
		checkParse(t, nines(n-1)+".")
	}
}

func TestFormatExamples(t *testing.T) {
	for _, x := range []struct {
		number string
		digits int
		want   string
	}{
		{"5/4", 1, "1.3"}, {"-5/4", 1, "-1.2"}, {"5/4", 0, "1"}, {"5/4", 2, "1.25"}, {"5/4", 4, "1.2500"},
		{"0", 0, "0"}, {"0", 3, "0.000"}, {"0", 30, "0." + zeros(30)},
		{"1/2", 0, "1"}, {"-1/2", 0, "0"}, {"3/2", 0, "2"}, {"-3/2", 0, "-1"}, {"-51/100", 0, "-1"},
		{"-1/20", 1, "0.0"}, {"-51/1000", 1, "-0.1"}, {"1/20", 1, "0.1"}, {"49/1000", 1, "0.0"},
		{"1/3", 0, "0"}, {"1/3", 5, "0.33333"}, {"2/3", 5, "0.66667"}, {"-2/3", 5, "-0.66667"},
		{"999/1000", 2, "1.00"}, {"-999/1000", 2, "-1.00"}, {"99999/10000", 3, "10.000"},
		{"1/200", 2, "0.01"}, {"-1/200", 2, "0.00"}, {"-1/1" + zeros(40), 30, "0." + zeros(30)},
		{"-7", 0, "-7"}, {"-7", 1, "-7.0"}, {"1000000000", 1, "1000000000.0"}, {"1/1" + zeros(30), 30, "0." + zeros(29) + "1"},
	} {
		if got, e := decimal.Format(ratOf(number(x.number)), x.digits); e != api.OK || got != x.want {
			t.Errorf("P6.1: Format of %s with %d digits: got %q, %v, want %q", x.number, x.digits, got, e, x.want)
		}
	}
}

func TestFormat(t *testing.T) {
	for _, x := range samples() {
		for digits := range 31 {
			want := new(big.Rat).SetFrac(rounded(mul(x, power(digits))), pow10(digits)).FloatString(digits)
			if got, e := decimal.Format(ratOf(x), digits); e != api.OK || got != want || !isDecimalText(got) {
				t.Fatalf("P6.1: Format of %v with %d digits: got %q, %v, want %q", x, digits, got, e, want)
			}
		}
	}
}

func TestFormatFails(t *testing.T) {
	for _, digits := range []int{-1, 31, 32, -30, 1000000, math.MinInt, math.MaxInt} {
		for _, s := range []string{"0", "5/4", "-1/3", nines(50)} {
			if got, e := decimal.Format(ratOf(number(s)), digits); e != api.ErrInvalid || got != "" {
				t.Errorf("P6.1: Format of %s with %d digits: got %q, %v", s, digits, got, e)
			}
		}
	}
	// A decimal text has at most MaxText bytes.
	for _, x := range []struct{ size, digits int }{{api.MaxText, 0}, {api.MaxText - 2, 1}, {api.MaxText - 31, 30}} {
		for i, ok := range []bool{true, false} {
			n := new(big.Int).Sub(pow10(x.size+i), big.NewInt(1))
			a := api.Rat{Num: intOf(n), Den: intOf(big.NewInt(1))}
			got, e := decimal.Format(a, x.digits)
			if ok && (e != api.OK || len(got) != api.MaxText) || !ok && (e != api.ErrInvalid || got != "") {
				t.Errorf("P6.1: Format of 10^%d - 1 with %d digits: got %d bytes, %v", x.size+i, x.digits, len(got), e)
			}
		}
	}
}

// exact tries all numbers of digits, beginning with 0.
func exact(x *big.Rat) (string, bool) {
	for digits := range 31 {
		if mul(x, power(digits)).IsInt() {
			s := x.FloatString(digits)
			return s, len(s) <= 1000
		}
	}
	return "", false
}

func TestExact(t *testing.T) {
	for s, want := range map[string]string{"0": "0", "7": "7", "-7": "-7", "10": "10", "-1000": "-1000", "5/4": "1.25", "-5/4": "-1.25", "1/2": "0.5", "-1/2": "-0.5", "1/1000": "0.001", "10001/10": "1000.1", "1/8": "0.125", "1/1" + zeros(30): "0." + zeros(29) + "1"} {
		if got, ok := decimal.Exact(ratOf(number(s))); !ok || got != want {
			t.Errorf("P6.1: Exact of %s: got %q, %v, want %q", s, got, ok, want)
		}
	}
	for _, x := range samples() {
		checkExact(t, x)
	}
	// The denominators are products of powers of 2, 5, and sometimes 3.
	for i := range 34 {
		for j := range 34 {
			for _, num := range []int64{1, -7, 1000003} {
				den := new(big.Int).Exp(big.NewInt(5), big.NewInt(int64(j)), nil)
				checkExact(t, new(big.Rat).SetFrac(big.NewInt(num), den.Lsh(den, uint(i))))
				checkExact(t, new(big.Rat).SetFrac(big.NewInt(num), den.Mul(den, big.NewInt(3))))
			}
		}
	}
}

// checkExact compares the shortest text of x with the right one.
func checkExact(t *testing.T, x *big.Rat) {
	t.Helper()
	want, wantOK := exact(x)
	if !wantOK {
		want = ""
	}
	if got, ok := decimal.Exact(ratOf(x)); got != want || ok != wantOK {
		t.Fatalf("P6.1: Exact of %.60v: got %.60q, %v, want %.60q", x, got, ok, want)
	}
}

func TestExactAtTheLimit(t *testing.T) {
	for _, s := range []string{nines(1000), "1" + zeros(999), nines(969) + "." + nines(30), nines(998) + ".5", "-" + nines(999), "-" + nines(968) + "." + nines(30), "-" + nines(997) + ".5"} {
		if got, ok := decimal.Exact(ratOf(number(s))); !ok || got != s || len(s) != 1000 {
			t.Errorf("P6.1: Exact of a text of %d bytes: got %d bytes, %v", len(s), len(got), ok)
		}
	}
	for _, s := range []string{nines(1001), "-" + nines(1000), "1" + zeros(1000), nines(999) + ".5", "-" + nines(998) + ".5", nines(970) + "." + nines(30), nines(5000) + ".125", "1" + zeros(api.MaxText)} {
		if got, ok := decimal.Exact(ratOf(number(s))); ok || got != "" {
			t.Errorf("P6.1: Exact of a text of %d bytes: got %d bytes, %v", len(s), len(got), ok)
		}
	}
}

func TestMillimetres(t *testing.T) {
	for n, want := range map[int64]string{0: "0", 1: "0.001", -1: "-0.001", 10: "0.01", 100: "0.1", -100: "-0.1", 999: "0.999", 1000: "1", -1000: "-1", -1500: "-1.5", 1050: "1.05", 1005: "1.005", 10000: "10", 100000: "100", 10000000: "10000", -9999999: "-9999.999", math.MaxInt64: "9223372036854775.807", math.MinInt64: "-9223372036854775.808", math.MinInt64 + 8: "-9223372036854775.8", math.MaxInt64 - 807: "9223372036854775"} {
		if got := decimal.Millimetres(n); got != want {
			t.Errorf("P6.1: Millimetres of %d: got %q, want %q", n, got, want)
		}
	}
	forLengths(func(n int64) {
		if want, _ := exact(big.NewRat(n, 1000)); decimal.Millimetres(n) != want {
			t.Fatalf("P6.1: Millimetres of %d: got %q, want %q", n, decimal.Millimetres(n), want)
		}
	})
}

// forLengths calls f for lengths of all sizes and signs.
func forLengths(f func(n int64)) {
	for n := int64(-12000); n <= 12000; n++ {
		f(n)
	}
	for shift := range 64 {
		for d := int64(-3); d <= 3; d++ {
			f(math.MinInt64>>shift + d)
			f(math.MaxInt64>>shift + d)
		}
	}
}

func TestFromMillimetres(t *testing.T) {
	for s, want := range map[string]int64{"0": 0, "0.0": 0, "0.000": 0, "1": 1000, "-1": -1000, "0.001": 1, "-0.001": -1, "0.01": 10, "0.010": 10, "0.1": 100, "-1.5": -1500, "-1.500": -1500, "123.456": 123456, "10000": 10000000, "10000.0": 10000000, "10000.000": 10000000, "-10000": -10000000, "-10000.000": -10000000, "9999.999": 9999999, "-9999.999": -9999999} {
		if got, e := decimal.FromMillimetres(s); e != api.OK || got != want {
			t.Errorf("P6.1: FromMillimetres of %s: got %d, %v, want %d", s, got, e, want)
		}
	}
	for s, want := range map[string]api.Errno{
		"10000.001": api.ErrRange, "-10000.001": api.ErrRange, "10001": api.ErrRange, "-10001": api.ErrRange, "99999": api.ErrRange, "9223372036854775.807": api.ErrRange, "18446744073709551.617": api.ErrRange, "18446744073709552": api.ErrRange, "-18446744073709551.616": api.ErrRange, nines(50) + ".999": api.ErrRange, nines(api.MaxText): api.ErrRange, "-" + nines(api.MaxText-5) + ".999": api.ErrRange,
		"": api.ErrSyntax, "-": api.ErrSyntax, "-0": api.ErrSyntax, "-0.000": api.ErrSyntax, "0.0000": api.ErrSyntax, "1.0000": api.ErrSyntax, "1.5000": api.ErrSyntax, "0.0001": api.ErrSyntax, "10000.0000": api.ErrSyntax, "10001.0000": api.ErrSyntax, "1." + zeros(31): api.ErrSyntax, "01": api.ErrSyntax, "1.": api.ErrSyntax, ".5": api.ErrSyntax, "+1": api.ErrSyntax, "1.5 ": api.ErrSyntax, " 1": api.ErrSyntax, "1.2.3": api.ErrSyntax, "1.x": api.ErrSyntax, "x": api.ErrSyntax, "1e3": api.ErrSyntax, nines(api.MaxText + 1): api.ErrSyntax, nines(api.MaxText) + "x": api.ErrSyntax,
	} {
		if got, e := decimal.FromMillimetres(s); e != want || got != 0 {
			t.Errorf("P6.1: FromMillimetres of %.60q with %d bytes: got %d, %v, want %v", s, len(s), got, e, want)
		}
	}
}

func TestFromMillimetresOfAllForms(t *testing.T) {
	forLengths(func(n int64) {
		for digits := range 6 {
			s := big.NewRat(n, 1000).FloatString(digits)
			got, e := decimal.FromMillimetres(s)
			switch x := mul(number(s), big.NewRat(1000, 1)); {
			case digits > 3 || !isDecimalText(s):
				if e != api.ErrSyntax || got != 0 {
					t.Fatalf("P6.1: FromMillimetres of %s: got %d, %v", s, got, e)
				}
			case x.Cmp(big.NewRat(api.MaxGrid, 1)) > 0 || x.Cmp(big.NewRat(-api.MaxGrid, 1)) < 0:
				if e != api.ErrRange || got != 0 {
					t.Fatalf("P6.1: FromMillimetres of %s: got %d, %v", s, got, e)
				}
			case e != api.OK || x.Cmp(big.NewRat(got, 1)) != 0:
				t.Fatalf("P6.1: FromMillimetres of %s: got %d, %v, want %v", s, got, e, x)
			}
		}
	})
}
