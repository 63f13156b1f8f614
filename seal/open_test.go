package seal_test

import (
	"math/rand"
	"strings"
	"testing"

	"humpyard/api"
	"humpyard/seal"
)

// S3

func TestOpenTable(t *testing.T) {
	wantOpen(t, "a#e40c292c", "a", api.OK)
	for s, digits := range sums {
		wantOpen(t, s+"#"+digits, s, api.OK)
	}
}

// TestOpenSigns: a text may hold the sign itself, and what looks like a sum.
func TestOpenSigns(t *testing.T) {
	for s, want := range map[string]string{
		"##260c9112":                           "#",
		"###16c89023":                          "##",
		"a##0e24a29d":                          "a#",
		"a#e40c292c#" + digitsOf("a#e40c292c"): "a#e40c292c",
		"#811c9dc5#e9536e54":                   "#811c9dc5",
		"#811c9dc5##" + digitsOf("#811c9dc5#"): "#811c9dc5#",
		"a#e40c292#" + digitsOf("a#e40c292"):   "a#e40c292",
		"a#00000000#" + digitsOf("a#00000000"): "a#00000000",
	} {
		wantOpen(t, s, want, api.OK)
	}
}

// digitsOf are those of a text's sum.
func digitsOf(s string) string { return sealed(s)[len(s)+1:] }

func TestOpenTwice(t *testing.T) {
	for _, s := range someTexts {
		twice := sealed(sealed(s))
		wantOpen(t, twice, sealed(s), api.OK)
		once, _ := seal.Open(twice)
		wantOpen(t, once, s, api.OK)
	}
}

func TestOpenWrong(t *testing.T) {
	for _, s := range []string{
		// fewer than nine bytes
		"", "#", "a", "##", "811c9dc", "811c9dc5", "#811c9dc", "#811c9d", "#0000000", "########", "\xff",
		// no sign at its place
		"811c9dc5#", "a811c9dc5", "8811c9dc5", "\x00811c9dc5", "\"811c9dc5", "$811c9dc5", "\xa3811c9dc5", "ae40c292c", "a e40c292c", "a%e40c292c", "aae40c292c", "a#ae40c292c", "#ae40c292c", "a#8#11c9dc5", "a\uff03e40c292c",
		// digits by capital letters, or none
		"#811C9DC5", "#811c9dC5", "#811C9dc5", "#811c9Dc5", "a#E40C292C", "a#E40c292c", "a#e40c292C", "bsvvj#0000007C",
		"#811c9dcg", "#811c9dc ", "# 811c9dc", "#+811c9dc", "#-7ee3623b", "#0x811c9d", "#811c_9dc", "#########", "#gggggggg", "#\x00\x00\x00\x00\x00\x00\x00\x00", "#\xff\xff\xff\xff\xff\xff\xff\xff", "#811c9dc:", "#811c9dc/", "#811c9dc`",
		"\xcc\x24\x31\xc4#        ", "\xcc\x24\x31\xc4#OOOOOOOO", "bsvvj#      7c", "bsvvj#000000:<",
		// fewer digits, or more
		"#", "a#", "a#e", "a#e40c292", "a#0e40c292c", "a#e40c292c0", "bsvvj#7c", "bsvvj#07c", "bsvvj#000007c", "bsvvj#00000007c", "\xcc\x24\x31\xc4#0", "\xcc\x24\x31\xc4#", "\xcc\x24\x31\xc4#000000000", "#02166136261", "a#3826002220", "##811c9dc5", "###260c9112", "##811c9dc5#",
		// the digits' order
		"#5cd9c118", "#c59d1c81", "a#c292c04e", "a#2c290ce4", "bsvvj#7c000000", "bsvvj#c7000000",
		// sums of others, or none
		"#00000000", "a#00000000", "#ffffffff", "a#811c9dc5", "#e40c292c", "b#e40c292c", "a#e70c2de5", "A#e40c292c", "a#bf9cf968", "foobar#e40c292c", "foobar#bf9cf969", "foobar#bf9cf967", "foobar#40630697", "aa#e40c292c", "\x00#811c9dc5", "a\x00#e40c292c", "a#e40c292c#e40c292c", "a#e40c292c#811c9dc5",
		// a blank, a line's end, a nought behind or ahead
		"a#e40c292c ", "a#e40c292c\n", "a#e40c292c\x00", " a#e40c292c", "\na#e40c292c", "\"a#e40c292c\"", "a #e40c292c", "a# e40c292c", "a#e40c292c#", "#a#e40c292c",
	} {
		wantShut(t, s)
		checkOpen(t, s)
	}
}

// TestOpenOthers: a sum opens no text but its own.
func TestOpenOthers(t *testing.T) {
	for s, digits := range sums {
		for other, others := range sums {
			if digits != others {
				wantShut(t, s+"#"+others)
				wantShut(t, other+"#"+digits)
			} else {
				wantOpen(t, s+"#"+others, s, api.OK)
			}
		}
	}
	// Unlike texts may have the same sum.
	wantOpen(t, "glbvs#a1bc9a4f", "glbvs", api.OK)
	wantOpen(t, "yacxa#a1bc9a4f", "yacxa", api.OK)
}

func TestOpenMany(t *testing.T) {
	for _, s := range someTexts {
		checkOpen(t, s)
		checkOpen(t, s+"#811c9dc5")
	}
	eachShort(func(s string) {
		checkOpen(t, s)
		checkOpen(t, "#811c9d"+s)
		checkOpen(t, s+"811c9dc5")
		checkOpen(t, s+"#811c9dc5")
		checkOpen(t, s+"#bf9cf968")
		checkOpen(t, "foobar#bf9cf9"+s)
	})
	chance := rand.New(rand.NewSource(3))
	for range 20000 {
		checkOpen(t, anyText(chance, 20))
	}
}

func TestOpenLong(t *testing.T) {
	long := strings.Repeat("a#\x00\xffé", 10000)
	wantOpen(t, sealed(long), long, api.OK)
	wantShut(t, long)
	wantShut(t, sealed(long)+"0")
	wantShut(t, "b"+sealed(long)[1:])
}

// S4

func TestOpenUndoesSeal(t *testing.T) {
	for _, a := range someTexts {
		for _, b := range someTexts {
			wantOpen(t, seal.Seal(a+b), a+b, api.OK)
		}
	}
	eachShort(func(s string) { wantOpen(t, seal.Seal(s), s, api.OK) })
	chance := rand.New(rand.NewSource(4))
	for range 20000 {
		s := anyText(chance, 80)
		wantOpen(t, seal.Seal(s), s, api.OK)
	}
}

// TestSealUndoesOpen: what is opened is sealed to the same.
func TestSealUndoesOpen(t *testing.T) {
	check := func(s string) bool {
		text, e := seal.Open(s)
		if e != api.OK {
			wantOpen(t, s, "", api.ErrSeal)
			return false
		}
		wantSeal(t, text, s)
		return true
	}
	for s, digits := range sums {
		if !check(s + "#" + digits) {
			t.Errorf("%q is not opened", s+"#"+digits)
		}
	}
	chance := rand.New(rand.NewSource(5))
	for range 20000 {
		s := sealed(anyText(chance, 20))
		if !check(s) {
			t.Errorf("%q is not opened", s)
		}
		check(s[chance.Intn(len(s)):])
		check(s[:chance.Intn(len(s))])
	}
}

// TestOpenChanged: with one byte changed nothing is opened, at every place, whatever it is then.
func TestOpenChanged(t *testing.T) {
	for _, s := range someTexts {
		right := []byte(seal.Seal(s))
		for i, was := range right {
			for b := range 256 {
				if right[i] = byte(b); right[i] != was {
					wantShut(t, string(right))
				}
			}
			right[i] = was
		}
		wantOpen(t, string(right), s, api.OK)
	}
	chance := rand.New(rand.NewSource(6))
	for range 50000 {
		s := []byte(seal.Seal(anyText(chance, 200)))
		s[chance.Intn(len(s))] ^= byte(1 + chance.Intn(255))
		wantShut(t, string(s))
	}
}

// TestOpenMoreOrLess: with one byte more behind, or one less, nothing is opened.
func TestOpenMoreOrLess(t *testing.T) {
	check := func(s string) {
		right := seal.Seal(s)
		for b := range 256 {
			wantShut(t, right+string([]byte{byte(b)}))
		}
		wantShut(t, right[:len(right)-1])
	}
	for _, s := range someTexts {
		check(s)
		check(sealed(s))
		// Nor may a byte of the sum be missing, or all from one on, or another one stand between.
		right := sealed(s)
		for i := len(s); i < len(right); i++ {
			wantShut(t, right[:i]+right[i+1:])
			checkOpen(t, right[:i])
			for _, c := range []string{"0", "f", "#", " ", "\x00", "\xff"} {
				checkOpen(t, right[:i]+c+right[i:])
			}
		}
	}
	eachShort(check)
	chance := rand.New(rand.NewSource(7))
	for range 1000 {
		check(anyText(chance, 60))
	}
}
