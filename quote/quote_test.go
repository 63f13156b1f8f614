package quote_test

import (
	"fmt"
	"math/rand"
	"strings"
	"testing"

	"humpyard/quote"
)

// span is the bytes from low to high.
type span struct{ low, high byte }

var tail = span{0x80, 0xBF}

// syntax is RFC 3629's grammar of UTF-8 (its section 4), said anew: a character is one of these rows of bytes.
var syntax = [][]span{
	{{0x00, 0x7F}},
	{{0xC2, 0xDF}, tail},
	{{0xE0, 0xE0}, {0xA0, 0xBF}, tail},
	{{0xE1, 0xEC}, tail, tail},
	{{0xED, 0xED}, {0x80, 0x9F}, tail},
	{{0xEE, 0xEF}, tail, tail},
	{{0xF0, 0xF0}, {0x90, 0xBF}, tail, tail},
	{{0xF1, 0xF3}, tail, tail, tail},
	{{0xF4, 0xF4}, {0x80, 0x8F}, tail, tail},
}

// begins tells whether s begins with bytes of a row.
func begins(s []byte, row []span) bool {
	if len(s) < len(row) {
		return false
	}
	for i, p := range row {
		if s[i] < p.low || s[i] > p.high {
			return false
		}
	}
	return true
}

// isWhole is what Whole must answer.
func isWhole(s []byte) bool {
next:
	for len(s) > 0 {
		for _, row := range syntax {
			if begins(s, row) {
				s = s[len(row):]
				continue next
			}
		}
		return false
	}
	return true
}

// quotedByHand is what Quote must answer of a character.
func quotedByHand(r rune) string {
	named := map[rune]string{
		'"': `\"`, '\\': `\\`, 0x08: `\b`, 0x09: `\t`, 0x0A: `\n`, 0x0C: `\f`, 0x0D: `\r`,
	}
	if s, ok := named[r]; ok {
		return s
	}
	if r < 0x20 {
		return fmt.Sprintf(`\u%04x`, r)
	}
	return string(r)
}

// eachRune hands each character that there is to do.
func eachRune(do func(rune)) {
	for r := rune(0); r <= 0x10FFFF; r++ {
		if r < 0xD800 || r > 0xDFFF {
			do(r)
		}
	}
}

// brokenTexts are not right UTF-8.
var brokenTexts = []string{
	// tails without a head, and heads whose tails are missing or cut off
	"\x80", "\xbf", "a\x80", "\x80a", "é\x80", "\xc3", "\xc3a", "\xc3\xc3\xa9", "\xe2", "\xe2\x82", "\xe2\x82a", "\xe2a\x82",
	"\xf0", "\xf0\x9f", "\xf0\x9f\x98", "\xf0\x9f\x98a", "\xf0\x9fa\x98",
	// forms that are longer than need be: of U+0000, /, U+007F, U+07FF and U+FFFF, and the greatest of them
	"\xc0\x80", "\xc0\xaf", "\xc1\xbf", "\xe0\x80\x80", "\xe0\x80\xaf", "\xe0\x9f\xbf", "\xf0\x80\x80\x80", "\xf0\x80\x80\xaf", "\xf0\x8f\xbf\xbf",
	"\xf8\x88\x80\x80\x80", "\xfc\x84\x80\x80\x80\x80",
	// surrogates: the first and the last of each half, and both together
	"\xed\xa0\x80", "\xed\xaf\xbf", "\xed\xb0\x80", "\xed\xbf\xbf", "\xed\xa0\xbd\xed\xb8\x80",
	// above U+10FFFF
	"\xf4\x90\x80\x80", "\xf4\xbf\xbf\xbf", "\xf5\x80\x80\x80", "\xf7\xbf\xbf\xbf", "\xf8", "\xfc", "\xfe", "\xff",
	// beside U+FFFD, which a byte that is broken must not be taken for
	"\ufffd\xff", "\xff\ufffd", "\xef\xbf", "\xef\xbf\xbf\xbd", "\xef\xef\xbf\xbd",
	"all is right till \xff", "\xff and right from here on",
}

// wholeTexts are right UTF-8: the edges of each length among them.
var wholeTexts = []string{
	"", "a", "abc", "\x00", "\x1f", " ", "\x7f", "\u0080", "\u07ff", "\u0800", "\ud7ff", "\ue000", "\ufffc", "\ufffd", "\ufffe", "\uffff", "\U00010000", "\U0010ffff",
	"\ufffd\ufffd", "a\ufffdb", "é€😀", "Straße nach Łódź", "日本語", "\"\\/", "\b\t\n\f\r", "a\"\x01", `\u0041`, "\u2028\u2029", "\ufeff",
}

// Q1

func TestWholeTable(t *testing.T) {
	for _, s := range wholeTexts {
		if !quote.Whole(s) {
			t.Errorf("%q is whole", s)
		}
	}
	for _, s := range brokenTexts {
		if quote.Whole(s) {
			t.Errorf("%q is not whole", s)
		}
	}
}

func checkWhole(t *testing.T, s []byte) {
	t.Helper()
	if got, want := quote.Whole(string(s)), isWhole(s); got != want {
		t.Errorf("Whole(%q): %v; want %v", s, got, want)
	}
}

// edges are the bytes at which a rule of UTF-8 begins or ends, and their neighbours.
var edges = []byte{
	0x00, 0x22, 0x5C, 0x7F, 0x80, 0x81, 0x8F, 0x90, 0x9F, 0xA0, 0xBD, 0xBF, 0xC0, 0xC1, 0xC2, 0xDF,
	0xE0, 0xE1, 0xEC, 0xED, 0xEE, 0xEF, 0xF0, 0xF1, 0xF3, 0xF4, 0xF5, 0xF7, 0xF8, 0xFC, 0xFE, 0xFF,
}

func TestWholeEachBytes(t *testing.T) {
	for a := range 256 {
		checkWhole(t, []byte{byte(a)})
		for b := range 256 {
			checkWhole(t, []byte{byte(a), byte(b)})
			for _, c := range edges {
				checkWhole(t, []byte{byte(a), byte(b), c})
				checkWhole(t, []byte{c, byte(a), byte(b)})
			}
		}
	}
	for _, a := range edges {
		for _, b := range edges {
			for _, c := range edges {
				for _, d := range edges {
					checkWhole(t, []byte{a, b, c, d})
				}
			}
		}
	}
}

func TestWholeEachRune(t *testing.T) {
	eachRune(func(r rune) {
		if s := string(r); !quote.Whole(s) || !quote.Whole("a"+s+s+"é") {
			t.Errorf("%U is whole", r)
		}
	})
}

func TestWholeManyTexts(t *testing.T) {
	chance := rand.New(rand.NewSource(2))
	for range 50000 {
		s := []byte(wholeTexts[chance.Intn(len(wholeTexts))] + wholeTexts[chance.Intn(len(wholeTexts))])
		checkWhole(t, s)
		if len(s) > 0 {
			s[chance.Intn(len(s))] = edges[chance.Intn(len(edges))]
		}
		checkWhole(t, s)
	}
}

// Q2

func TestQuoteTable(t *testing.T) {
	for s, want := range map[string]string{
		"":                  `""`,
		"a\"\x01":           `"a\"\u0001"`,
		"\"":                `"\""`,
		"\\":                `"\\"`,
		"\\\"":              `"\\\""`,
		"/":                 `"/"`,
		"'":                 `"'"`,
		"\b\t\n\f\r":        `"\b\t\n\f\r"`,
		"\x00\x07\x0b\x0e":  `"\u0000\u0007\u000b\u000e"`,
		"\x0f\x10\x1a\x1f ": `"\u000f\u0010\u001a\u001f "`,
		"\x7f":              "\"\x7f\"",
		"\u0080\u2028":      "\"\u0080\u2028\"",
		"<&>":               `"<&>"`,
		"\ufffd":            "\"\ufffd\"",
		"é€😀\U0010ffff":     "\"é€😀\U0010ffff\"",
		`\u0041`:            `"\\u0041"`,
	} {
		if got, ok := quote.Quote(s); got != want || !ok {
			t.Errorf("Quote(%q): %s, %v; want %s", s, got, ok, want)
		}
	}
}

func TestQuoteEachRune(t *testing.T) {
	eachRune(func(r rune) {
		want := quotedByHand(r)
		if got, ok := quote.Quote(string(r)); got != `"`+want+`"` || !ok {
			t.Errorf("Quote of %U: %s, %v; want %s", r, got, ok, want)
		}
	})
}

func TestQuoteBroken(t *testing.T) {
	for _, s := range brokenTexts {
		for _, s := range []string{s, "a\n" + s, s + "\"\\"} {
			if got, ok := quote.Quote(s); got != "" || ok {
				t.Errorf("Quote(%q), which is not whole: %q, %v", s, got, ok)
			}
		}
	}
}

func TestQuoteManyTexts(t *testing.T) {
	chance := rand.New(rand.NewSource(3))
	for range 5000 {
		var s, want strings.Builder
		for range chance.Intn(20) {
			r := []rune(wholeTexts[1+chance.Intn(len(wholeTexts)-1)])[0]
			if chance.Intn(2) == 0 {
				r = rune(chance.Intn(0x80))
			}
			s.WriteRune(r)
			want.WriteString(quotedByHand(r))
		}
		if got, ok := quote.Quote(s.String()); got != `"`+want.String()+`"` || !ok {
			t.Errorf("Quote(%q): %s, %v; want %s in quotes", s.String(), got, ok, want.String())
		}
	}
}
