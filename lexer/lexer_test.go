package lexer_test

import (
	"encoding/json"
	"math/rand"
	"regexp"
	"slices"
	"strings"
	"testing"

	"humpyard/api"
	"humpyard/decimal"
	"humpyard/lexer"
	"humpyard/quote"
)

// The chapter's words for what may stand at a text's beginning, said anew.
var (
	blankRun  = regexp.MustCompile(`\A[\x20\x09\x0A\x0D]*`)
	signRun   = regexp.MustCompile(`\A[\x7B\x7D\x5B\x5D\x2C\x3A]`)
	numberRun = regexp.MustCompile(`\A[0-9-][0-9+\-.eE]*`)
	letterRun = regexp.MustCompile(`\A[a-z]+`)
	threeOnly = regexp.MustCompile(`\A(true|false|null)\z`)
)

// blankKinds are the four bytes that may stand between tokens.
var blankKinds = []string{" ", "\t", "\n", "\r"}

// begun is the token with which s begins, and its bytes, if there is one.
func begun(s string) (api.Token, int, bool) {
	if run := signRun.FindString(s); run != "" {
		return api.Token{Kind: 1, Text: run}, 1, true
	}
	if strings.HasPrefix(s, `"`) {
		told, n, ok := quote.Unquote(s)
		return api.Token{Kind: 2, Text: told}, n, ok
	}
	if run := numberRun.FindString(s); run != "" {
		num, ok := decimal.Parse(run)
		return api.Token{Kind: 3, Text: run, Num: num}, len(run), ok
	}
	run := letterRun.FindString(s)
	return api.Token{Kind: 4, Text: run}, len(run), threeOnly.MatchString(run)
}

// scanned is what Scan must answer.
func scanned(s string) ([]api.Token, api.Errno, int) {
	if len(s) > 20000 {
		return nil, 30, 0
	}
	var out []api.Token
	at := 0
	for {
		at += len(blankRun.FindString(s[at:]))
		if at == len(s) {
			return append(out, api.Token{Kind: 5, At: at}), 0, 0
		}
		token, n, ok := begun(s[at:])
		if !ok {
			return nil, 30, at
		}
		token.At = at
		out = append(out, token)
		at += n
	}
}

func short(s string) string { return s[:min(len(s), 60)] }

func wantScan(t *testing.T, s string, want []api.Token, errno api.Errno, place int) {
	t.Helper()
	got, e, at := lexer.Scan(s)
	if !slices.Equal(got, want) || e != errno || at != place {
		t.Errorf("Scan(%q), of %d bytes: %.200v, %d, %d; want %.200v, %d, %d", short(s), len(s), got, e, at, want, errno, place)
	}
}

func wantTokens(t *testing.T, s string, want ...api.Token) {
	t.Helper()
	wantScan(t, s, want, api.OK, 0)
}

func wantWrong(t *testing.T, s string, place int) {
	t.Helper()
	wantScan(t, s, nil, api.ErrLex, place)
}

func checkScan(t *testing.T, s string) {
	t.Helper()
	want, e, at := scanned(s)
	wantScan(t, s, want, e, at)
}

func sign(text string, at int) api.Token {
	return api.Token{Kind: api.TokSign, Text: text, At: at}
}

func text(told string, at int) api.Token {
	return api.Token{Kind: api.TokText, Text: told, At: at}
}

func num(bytes string, mant, exp, at int) api.Token {
	return api.Token{Kind: api.TokNum, Text: bytes, Num: api.Decimal{Mant: mant, Exp: exp}, At: at}
}

func word(letters string, at int) api.Token {
	return api.Token{Kind: api.TokWord, Text: letters, At: at}
}

func end(at int) api.Token {
	return api.Token{Kind: api.TokEnd, At: at}
}

// L1

func TestExample(t *testing.T) {
	wantTokens(t, `[1, "a"]`, sign("[", 0), num("1", 1, 0, 1), sign(",", 2), text("a", 4), sign("]", 7), end(8))
}

func TestSigns(t *testing.T) {
	for _, s := range []string{"{", "}", "[", "]", ",", ":"} {
		wantTokens(t, s, sign(s, 0), end(1))
		wantTokens(t, " "+s+s, sign(s, 1), sign(s, 2), end(3))
	}
	wantTokens(t, "}{:,][", sign("}", 0), sign("{", 1), sign(":", 2), sign(",", 3), sign("]", 4), sign("[", 5), end(6))
}

func TestWords(t *testing.T) {
	for _, s := range []string{"true", "false", "null"} {
		wantTokens(t, s, word(s, 0), end(len(s)))
		wantTokens(t, "\t"+s+" "+s+"\n", word(s, 1), word(s, len(s)+2), end(2*len(s)+3))
		wantTokens(t, s+"]"+s+"1", word(s, 0), sign("]", len(s)), word(s, len(s)+1), num("1", 1, 0, 2*len(s)+1), end(2*len(s)+2))
	}
}

func TestNumbers(t *testing.T) {
	for s, want := range map[string]api.Decimal{
		"0":                   {},
		"-0":                  {},
		"-0.0E-7":             {},
		"7":                   {Mant: 7},
		"9":                   {Mant: 9},
		"-1.50e1":             {Mant: -15},
		"10":                  {Mant: 1, Exp: 1},
		"0.025":               {Mant: 25, Exp: -3},
		"1E+9":                {Mant: 1, Exp: 9},
		"1e-9":                {Mant: 1, Exp: -9},
		"1000000000":          {Mant: 1, Exp: 9},
		"999999999999999e9":   {Mant: 999_999_999_999_999, Exp: 9},
		"-999999999999999e-9": {Mant: -999_999_999_999_999, Exp: -9},
	} {
		token := api.Token{Kind: api.TokNum, Text: s, Num: want}
		wantTokens(t, s, token, end(len(s)))
		token.At = 3
		wantTokens(t, "[[ "+s+"]", sign("[", 0), sign("[", 1), token, sign("]", 3+len(s)), end(4+len(s)))
	}
	long := "1." + strings.Repeat("0", 398)
	wantTokens(t, long, num(long, 1, 0, 0), end(400))
	wantWrong(t, " "+long+"0", 1)
}

func TestTexts(t *testing.T) {
	for s, told := range map[string]string{
		`""`:                   "",
		`"a"`:                  "a",
		`"true"`:               "true",
		`" {}[],:1 "`:          " {}[],:1 ",
		`"\"\\\/\b\f\n\r\t"`:   "\"\\/\b\f\n\r\t",
		`"\u0041\ud83d\uDE00"`: "A😀",
		`"\u0000"`:             "\x00",
		"\"\x7fé€😀\ufffd\"":    "\x7fé€😀\ufffd",
	} {
		n := len(s)
		wantTokens(t, s, text(told, 0), end(n))
		wantTokens(t, "\r"+s+s, text(told, 1), text(told, 1+n), end(1+2*n))
		wantTokens(t, s+":"+s+",", text(told, 0), sign(":", n), text(told, n+1), sign(",", 2*n+1), end(2*n+2))
	}
}

func TestNothingBetween(t *testing.T) {
	wantTokens(t, `1true"a"null-2"b""c"false0`,
		num("1", 1, 0, 0), word("true", 1), text("a", 5), word("null", 8), num("-2", -2, 0, 12),
		text("b", 14), text("c", 17), word("false", 20), num("0", 0, 0, 25), end(26))
	wantTokens(t, `{"a":[1,{}],"b":null}`,
		sign("{", 0), text("a", 1), sign(":", 4), sign("[", 5), num("1", 1, 0, 6), sign(",", 7), sign("{", 8), sign("}", 9),
		sign("]", 10), sign(",", 11), text("b", 12), sign(":", 15), word("null", 16), sign("}", 20), end(21))
}

func TestEnd(t *testing.T) {
	wantTokens(t, "", end(0))
	for _, b := range blankKinds {
		wantTokens(t, b, end(1))
		wantTokens(t, strings.Repeat(b, 7), end(7))
		wantTokens(t, b+"1"+b+b, num("1", 1, 0, 1), end(4))
	}
	wantTokens(t, " \t\r\n", end(4))
}

func TestLength(t *testing.T) {
	for _, n := range []int{20000, 20001} {
		signs := make([]api.Token, n)
		for i := range signs {
			signs[i] = sign("[", i)
		}
		inner := strings.Repeat("a", n-2)
		for s, want := range map[string][]api.Token{
			strings.Repeat(" ", n):             nil,
			strings.Repeat("[", n):             signs,
			`"` + inner + `"`:                  {text(inner, 0)},
			strings.Repeat("\n", n-1) + "1":    {num("1", 1, 0, n-1)},
			"null" + strings.Repeat("\t", n-4): {word("null", 0)},
		} {
			if n > 20000 {
				wantWrong(t, s, 0)
			} else {
				wantTokens(t, s, append(want, end(n))...)
			}
		}
		// A long text's own wrong ones are not asked for.
		s := strings.Repeat(",", n-1) + "x"
		if n > 20000 {
			wantWrong(t, s, 0)
		} else {
			wantWrong(t, s, n-1)
		}
	}
	wantWrong(t, strings.Repeat("1 ", 1<<20), 0)
}

// wrongs are texts that begin no token, at whose beginning the wrong one stands whatever is behind.
var wrongs = []string{
	// bytes that begin none
	"x1", "T", "True", "N", "A", "Z", "_", "'a'", "`", "\\", "\\n", "+", "+1", ".", ".5", "E", "E5", "(", ")", ";", "/", "//", "#", "=", "@", "^", "~", "|", "<",
	"\x00", "\x01", "\x08", "\x0b", "\x0c", "\x0e", "\x1f", "\x7f", "\x80", "\xa0", "\xff", "\u0085", "\u00a0", "\u2028", "\ufeff", "é", "١", "😀",
	// words that are none of the three
	"x", "a", "z", "t", "tru", "tr ue", "truee", "truefalse", "nul", "nulll", "nULL", "fals", "falsetrue", "undefined", "nan", "e", "e5",
	// numbers that are none, or have no form
	"-", "--1", "-+1", "- 1", "-a", "-.5", "01", "00", "-01", "1.", "1.e1", "1..2", "1.2.3", "1e", "1e+", "1e-", "1ee1", "1e1e1", "1e1.5", "1E+-1", "1-", "1+", "1-2", "1+2", "1e5-", "1else", "1e400", "1e10", "1e-10", "0.0000000001", "1000000000000001", "1.000000000000001", "0-0", "0.",
	// strings that hold what may not be
	`"\q"`, `"\u12"`, `"\u123g"`, `"\ud83d"`, `"\ude00"`, `"\ud83d\u0041"`, "\"\n\"", "\"a\tb\"", "\"\x00\"", "\"\x1f\"", "\"\xff\"", "\"\xc3\"", "\"\xed\xa0\x80\"",
}

// cuts are strings that are cut off; what is behind them may end them.
var cuts = []string{`"`, `"a`, `"a]`, `"\`, `"\"`, `"a\\\"`, `"\u`, `"\u004`, `"\u0041`, `"\ud83d`, `"\ud83d\ude0`, `"é`}

// ahead are texts of right tokens behind which another one may begin.
var ahead = []string{"", " ", "\n\t\r ", "[", "{}", `"a"`, `"é\n\u00e9"`, "1 ", "-1.50e1,", "true ", "[null]", " \"\" : ", `{"a":[1,2,false],`}

func TestWrong(t *testing.T) {
	for _, a := range ahead {
		for _, s := range wrongs {
			wantWrong(t, a+s, len(a))
			wantWrong(t, a+s+"]", len(a))
			wantWrong(t, a+s+" 1", len(a))
			checkScan(t, a+s)
		}
		for _, s := range cuts {
			wantWrong(t, a+s, len(a))
			checkScan(t, a+s)
		}
	}
}

func TestWrongFirstOfTwo(t *testing.T) {
	for _, a := range ahead {
		for _, first := range wrongs {
			for _, second := range wrongs {
				wantWrong(t, a+first+" "+second, len(a))
			}
		}
	}
}

func TestWrongPlaces(t *testing.T) {
	for s, place := range map[string]int{
		"x":            0,
		" nul":         1,
		"[01]":         1,
		"1 2.":         2,
		"1,-":          2,
		`["\q"]`:       1,
		`"é" "é`:       5,
		"true false x": 11,
		"nullE":        4,
		"true.5":       4,
		"1true.":       5,
		"12 -":         3,
		"{\u00a0}":     1,
		"1\v2":         1,
		"\"a\"\"b":     3,
	} {
		wantWrong(t, s, place)
	}
}

func TestEachByte(t *testing.T) {
	for b := range 256 {
		c := string([]byte{byte(b)})
		for _, s := range []string{
			c, c + c, " " + c, c + " ", c + "1", "1" + c, "1" + c + "2", "-" + c, "1e" + c + "5", "true" + c, c + "true", "tru" + c, "[" + c + "]", `"` + c, `"` + c + `"`, `"\` + c + `"`, `"a"` + c, "null" + c + "null",
		} {
			checkScan(t, s)
		}
	}
}

func TestShortTexts(t *testing.T) {
	pieces := []string{"{", ",", `"`, `\`, " ", "\n", "0", "1", "-", "+", ".", "e", "E", "true", "null", "f", "\v", "\xc3"}
	texts := []string{""}
	for range 5 {
		var longer []string
		for _, s := range texts {
			checkScan(t, s)
			for _, p := range pieces {
				longer = append(longer, s+p)
			}
		}
		texts = longer
	}
}

// rightPieces are right tokens' texts.
var rightPieces = []string{"{", "}", "[", "]", ",", ":", "true", "false", "null", "0", "-0", "7", "-1.50e1", "1E+9", "0.025", `""`, `"a"`, `"\n\u0041\ud83d\ude00"`, "\"é😀\"", `" 1 "`}

// apart tells whether two pieces would run together with nothing between them: two numbers, or two words.
func apart(a, b string) bool {
	return numberRun.MatchString(a) && numberRun.MatchString(b) || letterRun.MatchString(a) && letterRun.MatchString(b)
}

// manyTexts hands right texts, made by chance, to do: tokens with blanks or none between them.
func manyTexts(seed int64, count int, do func(*rand.Rand, string)) {
	chance := rand.New(rand.NewSource(seed))
	for range count {
		var s strings.Builder
		last := ""
		for range chance.Intn(12) {
			piece := rightPieces[chance.Intn(len(rightPieces))]
			if apart(last, piece) {
				s.WriteString(blankKinds[chance.Intn(4)])
			}
			for chance.Intn(2) == 0 {
				s.WriteString(blankKinds[chance.Intn(4)])
			}
			s.WriteString(piece)
			last = piece
		}
		do(chance, s.String())
	}
}

func TestManyTexts(t *testing.T) {
	manyTexts(6, 20000, func(chance *rand.Rand, s string) {
		checkScan(t, s)
		bent := []byte(s)
		if len(bent) > 0 {
			bent[chance.Intn(len(bent))] = "{\"\\ \n0-e.tlx\x00\x80\xff"[chance.Intn(15)]
		}
		checkScan(t, string(bent))
	})
}

func TestTakesWhatJsonIs(t *testing.T) {
	taken := 0
	manyTexts(7, 200000, func(_ *rand.Rand, s string) {
		if !json.Valid([]byte(s)) {
			return
		}
		taken++
		if _, e, at := lexer.Scan(s); e != api.OK || at != 0 {
			t.Errorf("Scan(%q), which is JSON: %d, %d", s, e, at)
		}
	})
	if taken < 1000 {
		t.Errorf("only %d texts were JSON", taken)
	}
}

func TestAnswersAreTheOwners(t *testing.T) {
	const s = `{"a":[1,true,null]}`
	want, _, _ := scanned(s)
	first, _, _ := lexer.Scan(s)
	second, _, _ := lexer.Scan(s)
	room := first[:cap(first)]
	for i := range room {
		room[i] = api.Token{Kind: 99, Text: "z", At: -1}
	}
	if !slices.Equal(second, want) {
		t.Errorf("an answer was changed by writing into another one: %v; want %v", second, want)
	}
	wantTokens(t, s, want...)
}

// L2

// placeless are tokens without their places.
func placeless(tokens []api.Token) []api.Token {
	out := slices.Clone(tokens)
	for i := range out {
		out[i].At = 0
	}
	return out
}

func scan(t *testing.T, s string) []api.Token {
	t.Helper()
	tokens, e, at := lexer.Scan(s)
	if e != api.OK || at != 0 {
		t.Fatalf("Scan(%q): %d, %d", s, e, at)
	}
	return tokens
}

func TestBlanksChangePlacesAlone(t *testing.T) {
	manyTexts(8, 5000, func(chance *rand.Rand, s string) {
		old := scan(t, s)
		var wider strings.Builder
		var places []int
		from := 0
		for _, token := range old {
			wider.WriteString(s[from:token.At])
			for range chance.Intn(4) {
				wider.WriteString(blankKinds[chance.Intn(4)])
			}
			places = append(places, wider.Len())
			from = token.At
		}
		now := scan(t, wider.String())
		if !slices.Equal(placeless(now), placeless(old)) {
			t.Fatalf("%q and %q: %v, %v", s, wider.String(), old, now)
		}
		for i, token := range now {
			if token.At != places[i] {
				t.Errorf("Scan(%q): token %d at %d; want %d", wider.String(), i, token.At, places[i])
			}
		}
	})
}

func TestBlanksAreAlike(t *testing.T) {
	manyTexts(9, 2000, func(_ *rand.Rand, s string) {
		spaced := strings.NewReplacer("\t", " ", "\n", " ", "\r", " ").Replace(s)
		if !slices.Equal(scan(t, spaced), scan(t, s)) {
			t.Errorf("%q and %q differ", s, spaced)
		}
	})
}

func TestPlacesRise(t *testing.T) {
	manyTexts(10, 5000, func(_ *rand.Rand, s string) {
		last := -1
		tokens := scan(t, s)
		for _, token := range tokens {
			if token.At <= last {
				t.Fatalf("Scan(%q): %v", s, tokens)
			}
			last = token.At
		}
		if last != len(s) || tokens[len(tokens)-1].Kind != api.TokEnd {
			t.Errorf("Scan(%q) ends at %d", s, last)
		}
	})
}
