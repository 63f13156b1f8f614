package decimal_test

import (
	"math/big"
	"math/rand"
	"regexp"
	"strings"
	"testing"

	"humpyard/api"
	"humpyard/decimal"
)

// grammar is a number's text as JSON has it.
var grammar = regexp.MustCompile(`\A-?(0|[1-9][0-9]*)(\.[0-9]+)?([eE][-+]?[0-9]+)?\z`)

// parsed is what Parse must answer, of a text whose exponent is not far from 0.
func parsed(s string) (api.Decimal, bool) {
	if len(s) > 400 || !grammar.MatchString(s) {
		return api.Decimal{}, false
	}
	v, ok := new(big.Rat).SetString(s)
	if !ok {
		return api.Decimal{}, false
	}
	return formOf(v)
}

func checkParse(t *testing.T, s string) {
	t.Helper()
	want, ok := parsed(s)
	if got, is := decimal.Parse(s); got != want || is != ok {
		t.Errorf("Parse(%q): %v, %v; want %v, %v", s, got, is, want, ok)
	}
}

// eachText hands every text of at most length signs of the alphabet to do.
func eachText(alphabet string, length int, do func(string)) {
	texts := []string{""}
	for range length + 1 {
		var longer []string
		for _, s := range texts {
			do(s)
			for _, r := range alphabet {
				longer = append(longer, s+string(r))
			}
		}
		texts = longer
	}
}

// D2

func TestParseTable(t *testing.T) {
	for s, want := range map[string]api.Decimal{
		"-1.50e1":                    {Mant: -15},
		"0":                          {},
		"-0":                         {},
		"-0.0E-0":                    {},
		"7":                          {Mant: 7},
		"10":                         {Mant: 1, Exp: 1},
		"-10.010":                    {Mant: -1001, Exp: -2},
		"0.000000001":                {Mant: 1, Exp: -9},
		"0.0000000010":               {Mant: 1, Exp: -9},
		"1000000000":                 {Mant: 1, Exp: 9},
		"1E9":                        {Mant: 1, Exp: 9},
		"1e+009":                     {Mant: 1, Exp: 9},
		"1e-9":                       {Mant: 1, Exp: -9},
		"0.1e10":                     {Mant: 1, Exp: 9},
		"10e-10":                     {Mant: 1, Exp: -9},
		"0e999999999999999999999999": {},
		"0e-99999999999999999999999": {},
		"999999999999999e9":          {Mant: 999_999_999_999_999, Exp: 9},
		"-999999999999999e-9":        {Mant: -999_999_999_999_999, Exp: -9},
		"1000000000000000e-6":        {Mant: 1, Exp: 9},
	} {
		if d, ok := decimal.Parse(s); d != want || !ok {
			t.Errorf("Parse(%q): %v, %v; want %v", s, d, ok, want)
		}
	}
}

func TestParseRefuses(t *testing.T) {
	for _, s := range []string{
		// no numbers
		"", "-", "+", ".", "e", "E5", "-e5", "e5", "+1", "--1", "- 1", "01", "-01", "00", "00.5", ".5", "-.5", "5.", "-5.", "5.e1",
		"1e", "1E", "1e+", "1e-", "1e+-1", "1e--1", "1e++1", "1e1.5", "1e1e1", "1.2.3", "1e 1", " 1", "1 ", "1\n", "\t1", "1\x00", "\x00",
		"0x1", "1_0", "1,0", "1f", "NaN", "Infinity", "-Infinity", "true", "\"1\"", "٣", "１", "1\xff", "−1", "1/2", "1:", "12a",
		// numbers without a form
		"1e10", "1e-10", "10000000000", "0.0000000001", "1000000000000001", "-1000000000000001", "1000000000000000", "-1e15",
		"9.99999999999999", "1.0000000001", "999999999999999e10", "999999999999999e-10",
		"1e1000", "1e-1000", "1e18446744073709551616", "1e-18446744073709551616", "1e18446744073709551625", "1e9223372036854775817",
		"18446744073709551617", "9223372036854775808", "100000000000000000000000000000000000000000000001e-40",
	} {
		if d, ok := decimal.Parse(s); ok || d != (api.Decimal{}) {
			t.Errorf("Parse(%q): %v, %v", s, d, ok)
		}
	}
}

func TestParseLongTexts(t *testing.T) {
	zeros := func(n int) string { return strings.Repeat("0", n) }
	long := []struct {
		s    string
		want api.Decimal
		ok   bool
	}{
		{"1." + zeros(398), api.Decimal{Mant: 1}, true},
		{"1." + zeros(399), api.Decimal{}, false},
		{"-1." + zeros(397), api.Decimal{Mant: -1}, true},
		{"-1." + zeros(398), api.Decimal{}, false},
		{"1e" + zeros(398), api.Decimal{Mant: 1}, true},
		{"1e" + zeros(399), api.Decimal{}, false},
		{"1e" + zeros(397) + "9", api.Decimal{Mant: 1, Exp: 9}, true},
		{"1e" + zeros(398) + "9", api.Decimal{}, false},
		{"0." + zeros(398), api.Decimal{}, true},
		{"0." + zeros(399), api.Decimal{}, false},
		{"0e" + strings.Repeat("9", 398), api.Decimal{}, true},
		{"0e" + strings.Repeat("9", 399), api.Decimal{}, false},
		{"3e" + strings.Repeat("9", 398), api.Decimal{}, false},
		{"3e-" + strings.Repeat("9", 397), api.Decimal{}, false},
		{"3" + zeros(394) + "e-394", api.Decimal{Mant: 3}, true},
		{"3" + zeros(394) + "e-385", api.Decimal{Mant: 3, Exp: 9}, true},
		{"3" + zeros(394) + "e-384", api.Decimal{}, false},
		{"3" + zeros(395) + "e-395", api.Decimal{}, false},
		{"0." + zeros(392) + "3e+393", api.Decimal{Mant: 3}, true},
		{"0." + zeros(393) + "3e394", api.Decimal{Mant: 3}, true},
		{"0." + zeros(392) + "3e+384", api.Decimal{Mant: 3, Exp: -9}, true},
		{"0." + zeros(392) + "3e+383", api.Decimal{}, false},
		{"0." + zeros(393) + "3e+394", api.Decimal{}, false},
		{strings.Repeat("1", 400), api.Decimal{}, false},
		{strings.Repeat("1", 1<<20), api.Decimal{}, false},
		{strings.Repeat("-", 400), api.Decimal{}, false},
	}
	for _, c := range long {
		if d, ok := decimal.Parse(c.s); d != c.want || ok != c.ok {
			t.Errorf("Parse of %d bytes, %.20q..: %v, %v; want %v, %v", len(c.s), c.s, d, ok, c.want, c.ok)
		}
	}
}

func TestParseEachShortText(t *testing.T) {
	eachText("015-+.eE ", 5, func(s string) { checkParse(t, s) })
}

func TestParseEachByte(t *testing.T) {
	for b := range 256 {
		for _, s := range []string{"", "1", "-1", "1.", "1.5", "1e", "1e1", "0"} {
			checkParse(t, s+string([]byte{byte(b)}))
			checkParse(t, string([]byte{byte(b)})+s)
			checkParse(t, s+string([]byte{byte(b)})+"2")
		}
	}
}

func TestParseManyTexts(t *testing.T) {
	chance := rand.New(rand.NewSource(1))
	figures := func(most int) string {
		out := make([]byte, chance.Intn(most+1))
		for i := range out {
			out[i] = "0001234567890000"[chance.Intn(16)]
		}
		return string(out)
	}
	pick := func(of ...string) string { return of[chance.Intn(len(of))] }
	for range 30000 {
		s := pick("", "", "-") + pick("", "", "0", "9") + figures(18)
		if chance.Intn(2) == 0 {
			s += "." + figures(18)
		}
		if chance.Intn(2) == 0 {
			s += pick("e", "E") + pick("", "+", "-") + figures(2)
		}
		checkParse(t, s)
	}
}

// D3

func TestPrintTable(t *testing.T) {
	for want, d := range map[string]api.Decimal{
		"0":                         {},
		"0.025":                     {Mant: 25, Exp: -3},
		"-0.25":                     {Mant: -25, Exp: -2},
		"2.5":                       {Mant: 25, Exp: -1},
		"25":                        {Mant: 25},
		"-2500":                     {Mant: -25, Exp: 2},
		"1000000000":                {Mant: 1, Exp: 9},
		"0.000000001":               {Mant: 1, Exp: -9},
		"-0.999999999":              {Mant: -999_999_999, Exp: -9},
		"1.000000001":               {Mant: 1_000_000_001, Exp: -9},
		"999999.999999999":          {Mant: 999_999_999_999_999, Exp: -9},
		"-999999999999999000000000": {Mant: -999_999_999_999_999, Exp: 9},
	} {
		if got := decimal.Print(d); got != want {
			t.Errorf("Print(%v): %q; want %q", d, got, want)
		}
	}
}

func TestPrint(t *testing.T) {
	for _, d := range forms() {
		if got, want := decimal.Print(d), worth(d).FloatString(max(0, -d.Exp)); got != want {
			t.Errorf("Print(%v): %q; want %q", d, got, want)
		}
	}
	for _, d := range misformed() {
		if got := decimal.Print(d); got != "" {
			t.Errorf("Print(%v), which is not in its form: %q", d, got)
		}
	}
}

// D5

func TestParseUndoesPrint(t *testing.T) {
	for _, d := range forms() {
		s := decimal.Print(d)
		if got, ok := decimal.Parse(s); got != d || !ok {
			t.Errorf("Parse(Print(%v)): %v, %v", d, got, ok)
		}
	}
}

func TestPrintIsShortest(t *testing.T) {
	eachText("0159-.", 6, func(s string) {
		d, ok := decimal.Parse(s)
		if ok && len(decimal.Print(d)) > len(s) {
			t.Errorf("Print(%v): %q; shorter is %q", d, decimal.Print(d), s)
		}
	})
	// Any byte that is left out alters the value, or spoils the text.
	for _, d := range forms() {
		s := decimal.Print(d)
		for i := range len(s) {
			if got, ok := decimal.Parse(s[:i] + s[i+1:]); ok && got == d {
				t.Errorf("Print(%v): %q; byte %d may go", d, s, i)
			}
		}
	}
}
