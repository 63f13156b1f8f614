package topic_test

import (
	"math/rand"
	"slices"
	"strings"
	"testing"

	"humpyard/topic"
)

// matches is what Match must answer of a filter's and a text's parts, said anew from the last part on.
func matches(filter, name []string) bool {
	if len(filter) == 0 {
		return len(name) == 0
	}
	behind := len(filter) - 1
	if filter[behind] == "#" {
		return len(name) >= behind && allMatch(filter[:behind], name[:behind])
	}
	return len(name) == len(filter) && allMatch(filter, name)
}

// allMatch tells whether parts match, one by one; there are as many of both.
func allMatch(filter, name []string) bool {
	for i := len(filter) - 1; i >= 0; i-- {
		if filter[i] != "+" && filter[i] != name[i] {
			return false
		}
	}
	return true
}

func wantMatch(t *testing.T, filter, name string, want bool) {
	t.Helper()
	if got := topic.Match(filter, name); got != want {
		t.Errorf("Match(%q, %q): %v; want %v", short(filter), short(name), got, want)
	}
}

func checkMatch(t *testing.T, filter, name string) {
	t.Helper()
	wantMatch(t, filter, name, matches(strings.Split(filter, "/"), strings.Split(name, "/")))
}

// T3

func TestMatchExample(t *testing.T) {
	wantMatch(t, "uagv/v2/+/v1/#", "uagv/v2/m/v1/state", true)
	wantMatch(t, "uagv/v2/+/v1/#", "uagv/v2/m/v2/state", false)
	wantMatch(t, "uagv/v2/+/v1/#", "uagv/v2/m/v1", true)
	wantMatch(t, "uagv/v2/+/v1/#", "uagv/v2/m", false)
	wantMatch(t, "uagv/v2/+/v1/#", "uagv/v2/m/n/v1", false)
	wantMatch(t, "uagv/v2/+/+/state", "uagv/v2/m/v1/state", true)
	wantMatch(t, "uagv/v2/+/+/state", "uagv/v2/m/v1/order", false)
}

// TestMatchTable: filters, with what they match, and what they don't.
func TestMatchTable(t *testing.T) {
	for _, row := range []struct {
		filter   string
		yes, not []string
	}{
		// without a sign
		{"a", []string{"a"}, []string{"", "b", "A", "aa", "a ", " a", "a/", "/a", "a/a", "/", "+", "#", "a\x00"}},
		{"a/b", []string{"a/b"}, []string{"", "a", "b", "a/", "/b", "a/c", "b/a", "a/b/", "/a/b", "a/b/c", "a//b", "ab", "a/B", "a/+", "+/b", "a/#"}},
		{"é/\xff", []string{"é/\xff"}, []string{"é/\xfe", "e/\xff", "é/\ufffd", "é"}},
		// empty parts
		{"", []string{""}, []string{"a", "/", "//", " ", "+", "#"}},
		{"/", []string{"/"}, []string{"", "a", "a/", "/a", "a/b", "//"}},
		{"//", []string{"//"}, []string{"", "/", "///", "a//", "//a", "/a/"}},
		{"a/", []string{"a/"}, []string{"a", "a//", "a/b", "/a", "/"}},
		{"/a", []string{"/a"}, []string{"a", "//a", "b/a", "a/", "/"}},
		{"a//b", []string{"a//b"}, []string{"a/b", "a///b", "a/c/b", "a//", "//b"}},
		// + at each place
		{"+", []string{"", "a", "abc", "+", "#", "é", "\xff", "a#+"}, []string{"/", "a/", "/a", "a/b", "//"}},
		{"+/b", []string{"a/b", "/b", "+/b", "#/b", "b/b"}, []string{"b", "a/c", "a/b/", "a/b/c", "/a/b", "", "a/", "/"}},
		{"a/+", []string{"a/", "a/b", "a/+", "a/#", "a/a"}, []string{"a", "", "/", "b/a", "a/b/c", "a//", "/a", "aa/b"}},
		{"a/+/c", []string{"a/b/c", "a//c", "a/+/c", "a/a/c"}, []string{"a/c", "a/b/b/c", "a/b", "a/b/d", "/b/c", "a/b/c/", "a///c"}},
		{"+/+", []string{"/", "a/b", "a/", "/b", "+/+"}, []string{"", "a", "a/b/c", "//"}},
		{"+/", []string{"/", "a/"}, []string{"", "a", "a/b", "//", "a//"}},
		{"/+", []string{"/", "/a"}, []string{"", "a", "a/", "a/b", "//", "/a/"}},
		{"+/+/+", []string{"//", "a/b/c", "a//", "//c"}, []string{"", "/", "a/b", "///", "a/b/c/d"}},
		// # behind
		{"#", []string{"", "a", "/", "//", "a/b", "a/b/c", "+", "#", "/#"}, nil},
		{"a/#", []string{"a", "a/", "a/b", "a//", "a/b/c", "a/#", "a/+/#", "a///"}, []string{"", "b", "/a", "aa", "b/a", "/", "#", "+", "a#", "A/b"}},
		{"a/b/#", []string{"a/b", "a/b/", "a/b/c", "a/b/c/d"}, []string{"a", "a/", "a/c", "a/c/b", "/b", "", "b", "ab"}},
		{"/#", []string{"", "/", "/a", "//", "/a/b"}, []string{"a", "a/", "a/b", "#", " "}},
		{"//#", []string{"/", "//", "//a", "//a/b"}, []string{"", "a", "/a", "/a/", "a//"}},
		{"+/#", []string{"", "a", "a/b", "/", "//", "a/b/c", "+", "#"}, nil},
		{"+/+/#", []string{"/", "a/b", "a/", "/b", "a/b/c", "///"}, []string{"", "a", "+", "#"}},
		{"a/+/#", []string{"a/", "a/b", "a/b/c", "a//"}, []string{"a", "", "b/a", "/a"}},
		{"+/b/#", []string{"a/b", "/b", "a/b/c", "b/b/"}, []string{"b", "a", "a/c", "a/a/b", "/"}},
		// # that is not the last part is a part as any other one
		{"#/a", []string{"#/a"}, []string{"a", "x/a", "/a", "x/y/a", "#", "#/", "#/b", "+/a", "#/a/b", "a/#"}},
		{"#/", []string{"#/"}, []string{"", "#", "a", "/", "a/", "a/b", "#//", "#/a"}},
		{"a/#/b", []string{"a/#/b"}, []string{"a/b", "a/x/b", "a//b", "a/x/y/b", "a", "a/#", "a/#/c", "a/#/b/c"}},
		{"#/#", []string{"#", "#/", "#/a", "#/#", "#/a/b"}, []string{"", "a", "a/b", "/", "a/#", "+"}},
		{"#/+", []string{"#/", "#/a", "#/#"}, []string{"#", "a/b", "", "a", "/", "#/a/b"}},
		{"+/#/a", []string{"x/#/a", "/#/a", "#/#/a"}, []string{"x/y/a", "x/a", "x/#", "#/a"}},
		{"a/#/#", []string{"a/#", "a/#/", "a/#/b/c"}, []string{"a", "a/b", "a/", "a/b/c"}},
		// + or # beside other bytes
		{"+x", []string{"+x"}, []string{"ax", "x", "+", "xx", "#x", ""}},
		{"x+", []string{"x+"}, []string{"xa", "x", "+", "x/a", "xx"}},
		{"++", []string{"++"}, []string{"", "a", "ab", "+", "a/b", "+a"}},
		{"a+b", []string{"a+b"}, []string{"ab", "axb", "a/b", "a//b", "a"}},
		{"#x", []string{"#x"}, []string{"x", "ax", "#", "", "a/x", "#/x"}},
		{"x#", []string{"x#"}, []string{"x", "xa", "x/a", "x/", "#", ""}},
		{"##", []string{"##"}, []string{"", "a", "#", "a/b", "#/#", "###"}},
		{"+#", []string{"+#"}, []string{"", "a", "a/b", "+", "#", "a#"}},
		{"#+", []string{"#+"}, []string{"", "a", "+", "#", "#a"}},
		{"a/x#", []string{"a/x#"}, []string{"a/x", "a/xy", "a", "a/x/y", "a/#"}},
		{"a/ #", []string{"a/ #"}, []string{"a", "a/b", "a/#", "a/ "}},
		{"a/# ", []string{"a/# "}, []string{"a", "a/b", "a/#"}},
		{" +", []string{" +"}, []string{"a", " a", "+", ""}},
		{"+ ", []string{"+ "}, []string{"a", "a ", "+", ""}},
		{"a/#/", []string{"a/#/"}, []string{"a", "a/", "a/b", "a/#", "a/b/", "a/#/b", "a//"}},
	} {
		for _, name := range row.yes {
			wantMatch(t, row.filter, name, true)
		}
		for _, name := range row.not {
			wantMatch(t, row.filter, name, false)
		}
	}
}

// TestMatchSides: signs count in a filter, not in what is held against it.
func TestMatchSides(t *testing.T) {
	for _, name := range []string{"+", "#", "a/+", "+/b", "a/#", "+/#", "#/a", "+/+"} {
		for _, filter := range []string{"a", "", "a/b", "b", "a/", "/b", "x/a"} {
			wantMatch(t, filter, name, false)
		}
		wantMatch(t, name, name, true)
	}
}

// allTexts are all of at most size of some bytes.
func allTexts(bytes string, size int) []string {
	all := []string{""}
	for from := 0; size > 0; size-- {
		to := len(all)
		for _, s := range all[from:to] {
			for i := range len(bytes) {
				all = append(all, s+bytes[i:i+1])
			}
		}
		from = to
	}
	return all
}

// TestMatchShort: short filters and short texts, each with each.
func TestMatchShort(t *testing.T) {
	filters, names := allTexts("a/+#", 5), allTexts("ab/#", 5)
	parted := make([][]string, len(names))
	for i, name := range names {
		parted[i] = strings.Split(name, "/")
	}
	for _, filter := range filters {
		parts := strings.Split(filter, "/")
		for i, name := range names {
			if got, want := topic.Match(filter, name), matches(parts, parted[i]); got != want {
				t.Fatalf("Match(%q, %q): %v; want %v", filter, name, got, want)
			}
		}
	}
}

// someParts may be a filter's, or a text's.
var someParts = []string{"a", "b", "a", "", "+", "#", "v1", "+a", "a#", "é", "\xff", "\x00", "uagv"}

// anyParts are at least one and at most size, by chance.
func anyParts(chance *rand.Rand, size int) []string {
	parts := make([]string, 1+chance.Intn(size))
	for i := range parts {
		parts[i] = someParts[chance.Intn(len(someParts))]
	}
	return parts
}

// nearBy is a filter of parts: some are signs instead, or there are fewer, or more.
func nearBy(chance *rand.Rand, parts []string) []string {
	filter := slices.Clone(parts)
	for range chance.Intn(3) {
		filter[chance.Intn(len(filter))] = "+"
	}
	switch chance.Intn(6) {
	case 0, 1:
		filter = append(filter[:chance.Intn(len(filter)+1)], "#")
	case 2:
		filter[chance.Intn(len(filter))] = someParts[chance.Intn(len(someParts))]
	case 3:
		filter = append(filter, anyParts(chance, 2)...)
	}
	return filter
}

func TestMatchMany(t *testing.T) {
	chance := rand.New(rand.NewSource(5))
	right := 0
	for range 100000 {
		name := anyParts(chance, 8)
		filter := nearBy(chance, name)
		wantMatch(t, strings.Join(filter, "/"), strings.Join(name, "/"), matches(filter, name))
		if matches(filter, name) {
			right++
		}
		checkMatch(t, strings.Join(name, "/"), strings.Join(filter, "/"))
		checkMatch(t, strings.Join(anyParts(chance, 4), "/"), strings.Join(anyParts(chance, 4), "/"))
	}
	if right < 10000 || right > 90000 {
		t.Errorf("%d of 100000 matched", right)
	}
}

// TestMatchLong: as many parts as there may be are gone through, each once.
func TestMatchLong(t *testing.T) {
	const size = 1 << 20
	name := strings.Repeat("a/", size)
	wantMatch(t, name, name, true)
	wantMatch(t, strings.Repeat("+/", size), name, true)
	wantMatch(t, strings.Repeat("+/", size)+"#", name, true)
	wantMatch(t, strings.Repeat("+/", size)+"+/#", name, true)
	wantMatch(t, strings.Repeat("+/", size)+"+/+/#", name, false)
	wantMatch(t, strings.Repeat("+/", size)+"a", name, false)
	wantMatch(t, strings.Repeat("+/", size)+"/", name, false)
	wantMatch(t, strings.Repeat("+/", size-1)+"+", name, false)
	wantMatch(t, "#", name, true)
	wantMatch(t, "+", name, false)
	wantMatch(t, strings.Repeat("/", size), strings.Repeat("/", size), true)
	wantMatch(t, strings.Repeat("a", size), strings.Repeat("a", size), true)
	wantMatch(t, strings.Repeat("a", size), strings.Repeat("a", size+1), false)
}

// T4

// TestMatchItselfAlone: a filter without a sign matches itself, and nothing else.
func TestMatchItselfAlone(t *testing.T) {
	plain := allTexts("ab/", 6)
	names := append(allTexts("a/+#", 4), plain...)
	for _, filter := range plain {
		wantMatch(t, filter, filter, true)
	}
	for _, filter := range plain[:400] {
		for _, name := range names {
			wantMatch(t, filter, name, name == filter)
		}
	}
	for _, s := range someTopics {
		for _, name := range someTopics {
			wantMatch(t, s, name, s == name)
		}
	}
}

// TestMatchWithEnd: with # in the place of its last parts, however many, a filter matches what it did.
func TestMatchWithEnd(t *testing.T) {
	chance := rand.New(rand.NewSource(6))
	kept := 0
	for range 50000 {
		name := anyParts(chance, 8)
		filter := nearBy(chance, name)
		told := strings.Join(name, "/")
		if !topic.Match(strings.Join(filter, "/"), told) {
			continue
		}
		for cut := range filter {
			wantMatch(t, strings.Join(append(slices.Clone(filter[:cut]), "#"), "/"), told, true)
		}
		kept++
	}
	if kept < 10000 {
		t.Errorf("%d of 50000 matched", kept)
	}
}

// TestMatchTopics: each topic's text, of filters of each of its parts.
func TestMatchTopics(t *testing.T) {
	for x, s := range someTopics {
		for _, filter := range []string{
			"#", "uagv/#", "uagv/v2/#", "uagv/v2/" + x.Maker + "/#", "uagv/v2/+/" + x.Serial + "/#", "uagv/v2/+/+/" + x.Kind, "uagv/v2/+/+/+", "+/+/+/+/+", "+/+/+/+/+/#", s, s + "/#",
		} {
			wantMatch(t, filter, s, true)
		}
		for _, filter := range []string{
			"", "+", "uagv/v2", "uagv/v1/#", "uagv/v2/+/+", "+/+/+/+/+/+", s + "/", "/" + s, s + "/+", s + "/+/#", "uagv/v2/+/+/x", "uagv/v2/x/#", "uagv/v2/+/x/#", "#/" + x.Kind,
		} {
			wantMatch(t, filter, s, false)
		}
	}
}
