package topic_test

import (
	"math/rand"
	"regexp"
	"strings"
	"testing"

	"humpyard/topic"
)

// nameForm is how a name looks.
var nameForm = regexp.MustCompile(`\A[abcdefghijklmnopqrstuvwxyzABCDEFGHIJKLMNOPQRSTUVWXYZ0123456789_.:-]{1,16}\z`)

// everyByte is what may be in a name, each once.
const everyByte = "abcdefghijklmnopqrstuvwxyzABCDEFGHIJKLMNOPQRSTUVWXYZ0123456789_.:-"

// rightNames are names of all kinds.
var rightNames = []string{
	"a", "z", "A", "Z", "0", "9", "_", ".", ":", "-", // of 1 byte
	"abcdefghijklmnop", "ABCDEFGHIJKLMNOP", "0123456789012345", "________________", "................", "::::::::::::::::", "----------------", // of 16
	"abcdefghijklmno", "m", "v1", "hump", "KION.1", "agv:7-b", "..", "--", "A_.:-9", "_a", "a_", "-1", "1.5", "uagv", "v2", "order", "state",
}

// wrongNames are texts that are no names.
var wrongNames = []string{
	"", "abcdefghijklmnopq", "00000000000000000", "_________________", strings.Repeat("a", 32), strings.Repeat("a", 1<<16),
	" ", "a b", " a", "a ", "\ta", "a\n", "a\r\n", "\x00", "a\x00", "\x00a", "\x7f", "a\x7f",
	"/", "a/", "/a", "a/b", "+", "#", "a+", "#a", "*", "$", "!", "\"", "'", "%", "&", "(", ")", ",", ";", "<", "=", ">", "?", "@", "[", "\\", "]", "^", "`", "{", "|", "}", "~",
	"é", "aé", "éa", "\x80", "\xff", "a\xff", "\xc3", "\uff41", "\uff19", "\uff3f", "\u2212", "\u06f3", "ß", "\u212a", "\u017f", "\ufeffa", "😀", "абв",
	"abcdefghijklmno/", "abcdefghijklmno ", "/bcdefghijklmnop", "abcdefghijklmné", "aaaaaaaaaaaaaaaé",
}

func wantName(t *testing.T, s string, want bool) {
	t.Helper()
	if got := topic.Name(s); got != want {
		t.Errorf("Name(%q): %v; want %v", short(s), got, want)
	}
}

// short is a text as it is told.
func short(s string) string {
	if len(s) > 100 {
		return s[:100] + ".."
	}
	return s
}

// T1

func TestNameTable(t *testing.T) {
	for _, s := range rightNames {
		wantName(t, s, true)
	}
	for _, s := range wrongNames {
		wantName(t, s, false)
	}
}

// TestNameEachByte: each byte there is, alone, and at each place of names of each length.
func TestNameEachByte(t *testing.T) {
	for b := range 256 {
		c := string([]byte{byte(b)})
		may := strings.Contains(everyByte, c)
		wantName(t, c, may)
		for size := range 16 {
			for at := range size + 1 {
				wantName(t, strings.Repeat("m", at)+c+strings.Repeat("m", size-at), may)
			}
		}
	}
}

func TestNameEachLength(t *testing.T) {
	for _, c := range everyByte {
		for size := range 40 {
			wantName(t, strings.Repeat(string(c), size), size >= 1 && size <= 16)
		}
	}
}

func TestNameMany(t *testing.T) {
	chance := rand.New(rand.NewSource(1))
	right := 0
	for range 100000 {
		s := anyName(chance)
		want := nameForm.MatchString(s)
		wantName(t, s, want)
		if want {
			right++
		}
	}
	if right < 10000 || right > 90000 {
		t.Errorf("%d names of 100000 texts", right)
	}
}

// anyName is a text of at most 19 bytes, by chance, of bytes that may be in a name, or nearly so.
func anyName(chance *rand.Rand) string {
	s := make([]byte, chance.Intn(20))
	for i := range s {
		s[i] = everyByte[chance.Intn(len(everyByte))]
	}
	if len(s) > 0 && chance.Intn(3) == 0 {
		s[chance.Intn(len(s))] = byte(chance.Intn(256))
	}
	return string(s)
}
