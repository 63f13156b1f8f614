package seal_test

import (
	"fmt"
	"math/big"
	"math/rand"
	"regexp"
	"strconv"
	"strings"
	"testing"

	"humpyard/api"
	"humpyard/seal"
)

// summed is what Sum must answer, said anew with numbers that have no width.
func summed(s string) uint32 {
	sum, turn, lowest := big.NewInt(2166136261), big.NewInt(4294967296), big.NewInt(256)
	for _, b := range []byte(s) {
		low := new(big.Int).Mod(sum, lowest).Int64()
		sum.Add(sum, big.NewInt((low^int64(b))-low))
		sum.Mod(sum.Mul(sum, big.NewInt(16777619)), turn)
	}
	return uint32(sum.Uint64())
}

// sealed is what Seal must answer.
func sealed(s string) string { return s + fmt.Sprintf("#%08x", summed(s)) }

// form is how what is sealed looks: any text, the sign, and a sum's digits.
var form = regexp.MustCompile(`(?s)\A(.*)#([0-9a-f]{8})\z`)

// opened is what Open must answer.
func opened(s string) (string, api.Errno) {
	parts := form.FindStringSubmatch(s)
	if parts == nil {
		return "", 60
	}
	if sum, err := strconv.ParseUint(parts[2], 16, 32); err != nil || uint32(sum) != summed(parts[1]) {
		return "", 60
	}
	return parts[1], 0
}

func wantOpen(t *testing.T, s, want string, errno api.Errno) {
	t.Helper()
	if got, e := seal.Open(s); got != want || e != errno {
		t.Errorf("Open(%q): %q, %d; want %q, %d", short(s), short(got), e, short(want), errno)
	}
}

func wantShut(t *testing.T, s string) {
	t.Helper()
	wantOpen(t, s, "", api.ErrSeal)
}

func checkOpen(t *testing.T, s string) {
	t.Helper()
	want, errno := opened(s)
	wantOpen(t, s, want, errno)
}

// short is a text as it is told.
func short(s string) string {
	if len(s) > 100 {
		return s[:100] + ".."
	}
	return s
}

// sums are texts, and their sums as digits.
var sums = map[string]string{
	"":                 "811c9dc5",
	"a":                "e40c292c",
	"b":                "e70c2de5",
	"foo":              "a9f37ed7",
	"foobar":           "bf9cf968",
	"hello world":      "d58b3fa7",
	"#":                "260c9112",
	"##":               "16c89023",
	"a#":               "0e24a29d",
	"\x00":             "050c5d1f",
	"\x00\x00":         "117697cd",
	"\x7f":             "fa0c4bce",
	"\x80":             "850b939f",
	"\xff":             "7a0b824e",
	"é":                "1e9de8c1",
	"€":                "298f832b",
	"😀":                "33a29608",
	"430":              "18286740", // digits alone
	"905":              "dacacffb", // letters alone
	"aacap":            "02a84a35", // noughts ahead, more and more
	"aacar":            "00a8470f",
	"aaqan":            "000b2945",
	"abqiz":            "000054c6",
	"bmzxk":            "00000763",
	"bsvvj":            "0000007c",
	"\xcc\x24\x31\xc4": "00000000",
	"\xe0\x4d\x9f\xcb": "00000000",
}

// someTexts are texts of all kinds.
var someTexts = []string{
	"", "a", "foobar", " ", "\n", "\x00", "a\x00b", "\x00\x00\x00", "\x7f\x80\xff", "é€😀", "\xff\xfe", "\xc3", "\xed\xa0\x80", "a\xf0\x9f",
	"#", "##", "#########", "a#", "#a", "a#b#c", "a#e40c292c", "#811c9dc5", "811c9dc5", "e40c292c#", "a#e40c292", "#811C9DC5", "#00000000",
	"bsvvj", "aaqan", "\xcc\x24\x31\xc4", "\xe0\x4d\x9f\xcb", `{"headerId":1,"serialNumber":"v1","edges":[]}`, "0123456789abcdef",
}

// eachShort hands over all texts of at most three of some bytes.
func eachShort(do func(s string)) {
	texts := []string{""}
	for size := range 4 {
		var longer []string
		for _, s := range texts {
			do(s)
			for _, b := range "\x00\x01#09afAFg\x7f" {
				longer = append(longer, s+string(b))
			}
			longer = append(longer, s+"\x80", s+"\xff")
		}
		if size < 3 {
			texts = longer
		}
	}
}

// anyText is a text of at most size bytes, by chance.
func anyText(chance *rand.Rand, size int) string {
	s := make([]byte, chance.Intn(size+1))
	chance.Read(s)
	if chance.Intn(2) == 0 {
		for i := range s {
			s[i] = "#0189abcdefgAF \x00\xff"[chance.Intn(16)]
		}
	}
	return string(s)
}

// S1

func TestSumTable(t *testing.T) {
	for s, digits := range sums {
		if got := fmt.Sprintf("%08x", seal.Sum(s)); got != digits {
			t.Errorf("Sum(%q): %s; want %s", s, got, digits)
		}
	}
	if got := seal.Sum(""); got != 2166136261 {
		t.Errorf("Sum of the empty text: %d", got)
	}
}

func wantSum(t *testing.T, s string) {
	t.Helper()
	if got, want := seal.Sum(s), summed(s); got != want {
		t.Errorf("Sum(%q): %d; want %d", short(s), got, want)
	}
}

func TestSumEachByte(t *testing.T) {
	for b := range 256 {
		c := string([]byte{byte(b)})
		for _, s := range []string{c, "a" + c, c + "a", c + c, "\xff" + c + "\x00", "foo" + c + "bar"} {
			wantSum(t, s)
		}
	}
}

func TestSumMany(t *testing.T) {
	for _, s := range someTexts {
		wantSum(t, s)
	}
	eachShort(func(s string) { wantSum(t, s) })
	chance := rand.New(rand.NewSource(1))
	for range 5000 {
		wantSum(t, anyText(chance, 60))
	}
	for _, s := range []string{"a", "\x00", "\xff", "é#"} {
		wantSum(t, strings.Repeat(s, 30000))
	}
}

// S2

func wantSeal(t *testing.T, s, want string) {
	t.Helper()
	if got := seal.Seal(s); got != want {
		t.Errorf("Seal(%q): %q; want %q", short(s), short(got), short(want))
	}
}

func TestSealTable(t *testing.T) {
	wantSeal(t, "a", "a#e40c292c")
	for s, digits := range sums {
		wantSeal(t, s, s+"#"+digits)
	}
}

func TestSealTwice(t *testing.T) {
	wantSeal(t, "#811c9dc5", "#811c9dc5#e9536e54")
	for _, s := range someTexts {
		once := seal.Seal(s)
		wantSeal(t, once, sealed(sealed(s)))
		wantSeal(t, once, s+sealed(sealed(s))[len(s):])
	}
}

func TestSealMany(t *testing.T) {
	for _, s := range someTexts {
		wantSeal(t, s, sealed(s))
	}
	eachShort(func(s string) { wantSeal(t, s, sealed(s)) })
	chance := rand.New(rand.NewSource(2))
	for range 5000 {
		s := anyText(chance, 60)
		wantSeal(t, s, sealed(s))
	}
	long := strings.Repeat("a#\x00\xffé", 10000)
	wantSeal(t, long, sealed(long))
}
