package quote_test

import (
	"encoding/json"
	"fmt"
	"math/rand"
	"regexp"
	"strings"
	"testing"

	"humpyard/quote"
)

// grammar is a JSON string at a text's beginning as the chapter has it; of UTF-8 it asks nothing.
var grammar = regexp.MustCompile(`\A"(?:[^"\\\x00-\x1f]` +
	`|\\["\\/bfnrt]` +
	`|\\u(?:[0-9A-CEFa-cef][0-9A-Fa-f]{3}|[Dd][0-7][0-9A-Fa-f]{2})` +
	`|\\u[Dd][89ABab][0-9A-Fa-f]{2}\\u[Dd][C-Fc-f][0-9A-Fa-f]{2})*"`)

// unquoted is what Unquote must answer.
func unquoted(s string) (string, int, bool) {
	found := grammar.FindString(s)
	if found == "" || !isWhole([]byte(found)) {
		return "", 0, false
	}
	var text string
	if err := json.Unmarshal([]byte(found), &text); err != nil {
		return "", 0, false
	}
	return text, len(found), true
}

func checkUnquote(t *testing.T, s string) {
	t.Helper()
	text, n, ok := unquoted(s)
	wantUnquote(t, s, text, n, ok)
}

func wantUnquote(t *testing.T, s, text string, n int, ok bool) {
	t.Helper()
	if got, size, is := quote.Unquote(s); got != text || size != n || is != ok {
		t.Errorf("Unquote(%q): %q, %d, %v; want %q, %d, %v", s, got, size, is, text, n, ok)
	}
}

// behind are texts that may stand behind a string's end.
var behind = []string{"", "x", `"`, `""`, `\`, `\"`, "\n", "\x00", "\xff", "\x80", "\xed\xa0\x80", `\ude00`, `,"b"`, "é", "\ufffd"}

// Q3

func TestUnquoteTable(t *testing.T) {
	for s, want := range map[string]string{
		`""`:                         "",
		`"abc"`:                      "abc",
		`"\"\\\/\b\f\n\r\t"`:         "\"\\/\b\f\n\r\t",
		`"/'"`:                       "/'",
		"\" \x7f\u0080\"":            " \x7f\u0080",
		"\"é€😀\"":                    "é€😀",
		"\"\ufffd\ufffd\"":           "\ufffd\ufffd",
		`"\ufffd\uFFFD"`:             "\ufffd\ufffd",
		`"\u0041\u00E9\u20aC\uABCD"`: "Aé€\uabcd",
		`"\u0000\u001f\u0022\u005c"`: "\x00\x1f\"\\",
		`"\uD7FF\uE000"`:             "\ud7ff\ue000",
		`"\ud83d\ude00"`:             "😀",
		`"\uD83D\uDE00"`:             "😀",
		`"\ud800\udc00"`:             "\U00010000",
		`"\udbff\udfff"`:             "\U0010ffff",
		`"\ud83d\ude00\ud83d\ude00"`: "😀😀",
		`"\u00410"`:                  "A0",
		`"\ud83d\ude00\n"`:           "😀\n",
		`"\\u0041"`:                  `\u0041`,
		`"\\\\"`:                     `\\`,
		`"\\\""`:                     `\"`,
	} {
		for _, rest := range behind {
			wantUnquote(t, s+rest, want, len(s), true)
		}
		checkUnquote(t, s)
	}
	wantUnquote(t, `"\ud83d\ude00"x`, "\U0001f600", 14, true)
}

func TestUnquoteWrong(t *testing.T) {
	for _, s := range []string{
		// no quote at the beginning
		"", "a", `a"`, ` "a"`, `'a'`, `\"a"`, "\xef\xbb\xbf\"a\"", "\xff\"a\"",
		// cut off
		`"`, `"a`, `"\`, `"\"`, `"\\\"`, `"\u`, `"\u0`, `"\u004`, `"\u0041`, `"\ud83d`, `"\ud83d\`, `"\ud83d\u`, `"\ud83d\ude0`, `"\ud83d\ude00`,
		// backslashes that tell nothing
		`"\x"`, `"\a"`, `"\v"`, `"\0"`, `"\'"`, `"\ "`, `"\B"`, `"\N"`, `"\U0041"`, "\"\\\n\"", "\"\\\x00\"", "\"\\\xff\"", "\"\\é\"",
		// digits that are none, or too few
		`"\u"`, `"\u1"`, `"\u12"`, `"\u123"`, `"\u123g"`, `"\u123G"`, `"\ug123"`, `"\u+123"`, `"\u-123"`, `"\u 123"`, `"\u0x41"`, `"\u1_23"`, `"\u12:4"`, `"\u12/4"`, "\"\\u12`4\"", `"\u12@4"`, `"\u{41}"`, "\"\\u00\xff1\"", "\"\\u00é\"", `"\u00\u0041"`,
		// halves alone
		`"\ud83d"`, `"\ud800"`, `"\udbff"`, `"\ude00"`, `"\udc00"`, `"\udfff"`, `"\uDC00"`, `"a\ude00b"`, `"\ude00\ud83d"`, `"\ud83dx"`, `"\ud83d\n"`, `"\ud83d\\"`, `"\ud83d\u0041"`, `"\ud83d\ud83d"`, `"\ud83d\ud83d\ude00"`,
		`"\ud83d\udbff"`, `"\ud83d\ue000"`, `"\ud83d\ude0"`, `"\ud83d\ude0g"`, `"\ud83d\xde00"`, `"\ud83dude00"`, `"\ud83d \ude00"`, `"\ud83d\ude00\ude00"`, `"\ud83d""\ude00"`, "\"\\ud83d\xed\xb8\x80\"",
		// characters that may not stand there as they are
		"\"\n\"", "\"\t\"", "\"\x00\"", "\"a\x1f\"", "\"a\r\nb\"",
	} {
		wantUnquote(t, s, "", 0, false)
		checkUnquote(t, s)
	}
}

func TestUnquoteBroken(t *testing.T) {
	for _, s := range brokenTexts {
		wantUnquote(t, `"`+s+`"`, "", 0, false)
		wantUnquote(t, `"a\n`+s+`b"x`, "", 0, false)
		// What stands behind the end is not asked for.
		wantUnquote(t, `"a"`+s, "a", 3, true)
	}
}

func TestUnquoteEachRune(t *testing.T) {
	eachRune(func(r rune) {
		s := `"` + string(r) + `"`
		if r < 0x20 || r == '"' || r == '\\' {
			checkUnquote(t, s)
			return
		}
		wantUnquote(t, s, string(r), len(s), true)
	})
}

func TestUnquoteEachNumber(t *testing.T) {
	for n := range 0x10000 {
		isHalf := n >= 0xD800 && n <= 0xDFFF
		for _, form := range []string{`"\u%04x"`, `"\u%04X"`} {
			s := fmt.Sprintf(form, n)
			if isHalf {
				wantUnquote(t, s, "", 0, false)
			} else {
				wantUnquote(t, s, string(rune(n)), 8, true)
			}
		}
		// Behind a first half none but a second one may be told.
		s := fmt.Sprintf(`"\ud83d\u%04x"`, n)
		if n >= 0xDC00 && n <= 0xDFFF {
			wantUnquote(t, s, string(rune(0x1F400+n-0xDC00)), 14, true)
		} else {
			wantUnquote(t, s, "", 0, false)
		}
	}
}

func TestUnquoteEachPair(t *testing.T) {
	for r := rune(0x10000); r <= 0x10FFFF; r++ {
		s := fmt.Sprintf(`"\u%04x\u%04X"`, 0xD800+(r-0x10000)>>10, 0xDC00+(r-0x10000)&0x3FF)
		wantUnquote(t, s, string(r), 14, true)
	}
}

func TestUnquoteEachByte(t *testing.T) {
	for b := range 256 {
		c := string([]byte{byte(b)})
		for _, s := range []string{
			c, c + `"`, c + `a"`, `"` + c, `"` + c + `"`, `"` + c + `\"`, `"\` + c, `"\` + c + `"`, `"\` + c + `0041"`, `"\u` + c + `041"`, `"\u0` + c + `41"`, `"\u00` + c + `1"`, `"\u004` + c + `"`,
			`"\ud83d` + c + `ude00"`, `"\ud83d\` + c + `de00"`, `"\ud83d\u` + c + `e00"`, `"\ud83d\ud` + c + `00"`, `"\ud83d\ude0` + c + `"`, `"\u` + c + `83d\ude00"`, `"\ud` + c + `3d\ude00"`, `"a"` + c,
		} {
			checkUnquote(t, s)
		}
	}
}

func TestUnquoteShortTexts(t *testing.T) {
	pieces := []string{`"`, `\`, "u", "n", "\n", "é", "\xc3", "\\u00e9", "\\ud83d", "\\ude00"}
	texts := []string{""}
	for range 6 {
		var longer []string
		for _, s := range texts {
			checkUnquote(t, `"`+s)
			for _, p := range pieces {
				longer = append(longer, s+p)
			}
		}
		texts = longer
	}
}

func TestUnquoteManyTexts(t *testing.T) {
	chance := rand.New(rand.NewSource(4))
	pieces := []string{`\"`, `\\`, `\/`, `\b`, `\f`, `\n`, `\r`, `\t`, `\u0041`, `\uFFfd`, `\ud83d\ude00`, `\uDBFF\uDFFF`, "a", "é", "€", "😀", "\ufffd", "\x7f"}
	for range 50000 {
		s := []byte(`"`)
		for range chance.Intn(8) {
			s = append(s, pieces[chance.Intn(len(pieces))]...)
		}
		s = append(s, '"')
		if _, n, ok := quote.Unquote(string(s)); n != len(s) || !ok {
			t.Errorf("Unquote(%q): %d, %v", s, n, ok)
		}
		s = append(s, behind[chance.Intn(len(behind))]...)
		checkUnquote(t, string(s))
		s[chance.Intn(len(s))] = "\"\\u0dDn/\x00\x1f\x80\xc3\xff"[chance.Intn(13)]
		checkUnquote(t, string(s))
	}
}

// Q4

func checkUndone(t *testing.T, s string) {
	t.Helper()
	q, ok := quote.Quote(s)
	if !ok {
		t.Errorf("Quote(%q) is nothing", s)
		return
	}
	for i := range len(q) {
		if q[i] < 32 {
			t.Errorf("Quote(%q): %q has a byte below 32", s, q)
		}
	}
	for _, rest := range behind {
		wantUnquote(t, q+rest, s, len(q), true)
	}
	for i := range len(q) {
		wantUnquote(t, q[:i], "", 0, false)
	}
}

func TestUnquoteUndoesQuote(t *testing.T) {
	for _, a := range wholeTexts {
		for _, b := range wholeTexts {
			checkUndone(t, a+b)
		}
	}
	for r := range rune(0x300) {
		checkUndone(t, "a"+string(r)+"b")
	}
	long := strings.Repeat("a\"\\\n\x01é😀", 5000)
	q, ok := quote.Quote(long)
	if !ok {
		t.Error("Quote of a long text is nothing")
	}
	wantUnquote(t, q+q, long, len(q), true)
}

func TestUnquotedIsWhole(t *testing.T) {
	chance := rand.New(rand.NewSource(5))
	signs := []string{`\ud8`, `\udc`, `\u00`, `\uDF`, "00", "3d", "fF", "0", `\n`, `\"`, "é", "\xed\xa0\x80", "\xc3", "\xa9", "\ufffd"}
	taken := 0
	for range 200000 {
		s := `"`
		for range 1 + chance.Intn(6) {
			s += signs[chance.Intn(len(signs))]
		}
		text, n, ok := quote.Unquote(s + `"`)
		if !ok {
			continue
		}
		taken++
		if !quote.Whole(text) || !isWhole([]byte(text)) || n != len(s)+1 {
			t.Errorf("Unquote(%q): %q, %d", s+`"`, text, n)
		}
		if q, ok := quote.Quote(text); !ok {
			t.Errorf("Quote(%q): %q, %v", text, q, ok)
		}
	}
	if taken < 1000 {
		t.Errorf("only %d strings were taken", taken)
	}
}
