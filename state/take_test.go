package state_test

import (
	"fmt"
	"math/rand"
	"slices"
	"strings"
	"testing"

	"humpyard/api"
	"humpyard/state"
)

// wantTake: of a text as it comes.
func wantTake(t *testing.T, s string, want api.State, errno api.Errno) {
	t.Helper()
	if got, e := state.Take(s); got != want || e != errno {
		t.Errorf("Take(%q): %+v, %d; want %+v, %d", s[:min(len(s), 600)], got, e, want, errno)
	}
}

// wantTaken: of a text that is sealed first.
func wantTaken(t *testing.T, text string, want api.State) {
	t.Helper()
	wantTake(t, sealed(text), want, api.OK)
}

// wantRefused: of a text that is sealed first.
func wantRefused(t *testing.T, text string, errno api.Errno) {
	t.Helper()
	wantTake(t, sealed(text), api.State{}, errno)
}

// someText is the text of some.
const someText = `{"headerId":7,"boot":2,"serialNumber":"v1","orderId":3,"orderUpdateId":1,"live":true,"lastNodeId":5,"lastNodeSequenceId":4,"driving":true,"accepted":6}`

// somePairs are the fields of someText.
var somePairs = strings.Split(someText[1:len(someText)-1], ",")

// swapped is someText with the first one of a piece put into another one's place.
func swapped(t *testing.T, old, new string) string {
	t.Helper()
	if !strings.Contains(someText, old) {
		t.Fatalf("%q is not in the text", old)
	}
	return strings.Replace(someText, old, new, 1)
}

// A3

func TestTakeExample(t *testing.T) {
	wantTake(t, `{"headerId":1,"boot":2,"serialNumber":"v","orderId":3,"orderUpdateId":4,"live":true,"lastNodeId":5,"lastNodeSequenceId":6,"driving":false,"accepted":7}#`+exampleSum, example(), api.OK)
	wantTaken(t, someText, some())
}

// TestTakeOtherOrder: in which order fields stand counts for nothing.
func TestTakeOtherOrder(t *testing.T) {
	pairs := slices.Clone(somePairs)
	slices.Reverse(pairs)
	wantTaken(t, "{"+strings.Join(pairs, ",")+"}", some())
	for i := range somePairs {
		wantTaken(t, "{"+strings.Join(slices.Concat(somePairs[i:], somePairs[:i]), ",")+"}", some())
	}
	chance := rand.New(rand.NewSource(3))
	for range 2000 {
		chance.Shuffle(len(pairs), func(i, j int) { pairs[i], pairs[j] = pairs[j], pairs[i] })
		wantTaken(t, "{"+strings.Join(pairs, ",")+"}", some())
	}
}

// TestTakeOtherFields: fields beside those that are needed count for nothing, whatever they are.
func TestTakeOtherFields(t *testing.T) {
	for _, more := range []string{
		`"x":null`, `"version":"2.0.0"`, `"":0`, `"HeaderId":8`, `"headerid":8`, `"headerId ":8`, `"Boot":9`, `"Live":false`, `"driving ":false`, `"lastNode":"x"`, `"nodeId":5`, `"sequenceId":-1.5`, `"vehicle":"v2"`, `"maxAccepted":0`,
		`"x":[{"headerId":1},[],{}]`, `"x":{"headerId":8,"boot":"7","live":null}`, `"x":1e9,"y":true`, `"#":"#"`, `"batteryState":{"charge":80.5}`, `"errors":[]`, `"accepte\u0064_":-1`,
	} {
		wantTaken(t, "{"+more+","+someText[1:], some())
		wantTaken(t, strings.Replace(someText, `,"live"`, ","+more+`,"live"`, 1), some())
		wantTaken(t, someText[:len(someText)-1]+","+more+"}", some())
	}
}

// TestTakeOtherWays: other ways to write the same text count for nothing.
func TestTakeOtherWays(t *testing.T) {
	for old, news := range map[string][]string{
		`:7,`:             {`:7.0,`, `:7e0,`, `:0.7e1,`, `:70E-1,`, `:700e-2,`, `:7e+0,`, `:7.000e00,`, ` : 7 ,`},
		`"headerId"`:      {`"\u0068eaderId"`, `"header\u0049\u0064"`, ` "headerId" `, "\n\t\r\"headerId\"\n"},
		`"v1"`:            {`"\u0076\u0031"`, `"v\u0031"`, ` "v1"`},
		`"boot":2`:        {`"b\u006fot":2`, `"boot" : 2.0`, `"boot":20e-1`},
		`"live":true`:     {`"live" : true `, `"l\u0069ve":true`},
		`"driving":true`:  {"\"driving\"\n:\ttrue", `"drivin\u0067":true`},
		`Id":4`:           {`Id":4.0`, `Id":40e-1`, `\u0049d":4`},
		`"accepted":6}`:   {`"accepted":6 }`, `"accepted":0.06e2}`},
		`{"headerId":7,"`: {" {\t\"headerId\"\n:\r7 , \""},
	} {
		for _, new := range news {
			wantTaken(t, swapped(t, old, new), some())
		}
	}
	wantTaken(t, "  "+someText+"\n", some())
	for _, x := range numbers {
		old := fmt.Sprintf(`"%s":%d`, x.name, x.of(some()))
		for form, n := range map[string]int{"-0": 0, "0.00e5": 0, "-0.0E-9": 0, "8.0": 8, "1e9": 1_000_000_000, "100E7": 1_000_000_000, "999999998.0": 999_999_998, "0.12e3": 120, "1000000000": 1_000_000_000} {
			wantTaken(t, swapped(t, old, fmt.Sprintf(`"%s":%s`, x.name, form)), setting(some(), x, n))
		}
	}
}

func TestTakeUnsealed(t *testing.T) {
	s := sealed(someText)
	for _, x := range []string{
		"", "#", "{}", "null", "x", someText, someText + "#", someText + "#00000000", s + "#", s + " ", s + "0", " " + s, s[1:], s[:len(s)-1],
		strings.ToUpper(s), s[:len(s)-8] + strings.ToUpper(s[len(s)-8:]), strings.Replace(s, "v1", "v2", 1), strings.Replace(s, ":7", ": 7", 1), strings.Replace(s, "#", "", 1), strings.Replace(s, "#", "##", 1),
		"\x00", "\xff\xfe", strings.Repeat("[", 30000), someText + sealed(""), sealed("")[1:],
	} {
		wantTake(t, x, api.State{}, api.ErrSeal)
	}
	// A text that is sealed twice is opened once.
	wantTake(t, sealed(s), api.State{}, api.ErrLex)
}

// TestTakeUnparsed: chapter 4's errors, whatever the state that is told would be.
func TestTakeUnparsed(t *testing.T) {
	deep := func(count int) string { return strings.Repeat("[", count) + strings.Repeat("]", count) }
	more := func(item string) string { return someText[:len(someText)-1] + `,"x":` + item + "}" }
	for _, x := range []struct {
		text  string
		errno api.Errno
	}{
		{"", api.ErrJson}, {" ", api.ErrJson}, {"{", api.ErrJson}, {"}", api.ErrJson}, {"{]", api.ErrJson}, {"{}{}", api.ErrJson}, {"[,]", api.ErrJson}, {"{1:2}", api.ErrJson}, {`{"a"}`, api.ErrJson}, {"null,", api.ErrJson},
		{someText[:len(someText)-1], api.ErrJson}, {someText + "}", api.ErrJson}, {someText + "1", api.ErrJson}, {someText + someText, api.ErrJson}, {swapped(t, `:3,`, `:3,,`), api.ErrJson}, {swapped(t, `:3,`, `:,`), api.ErrJson}, {swapped(t, `"v1"`, `"v1" "v1"`), api.ErrJson}, {swapped(t, `:6}`, `:6,}`), api.ErrJson}, {swapped(t, `{`, `{,`), api.ErrJson},
		{"[tru]", api.ErrLex}, {"x", api.ErrLex}, {"\x00", api.ErrLex}, {"\xff", api.ErrLex}, {"#", api.ErrLex}, {"'a'", api.ErrLex}, {"{\"a\":01}", api.ErrLex}, {"+1", api.ErrLex}, {"1e10", api.ErrLex}, {".5", api.ErrLex},
		{swapped(t, `:7`, `:07`), api.ErrLex}, {swapped(t, `:7`, `:+7`), api.ErrLex}, {swapped(t, `:7`, `:7.`), api.ErrLex}, {swapped(t, `:7`, `:1e10`), api.ErrLex}, {swapped(t, `:7`, `:0x7`), api.ErrLex}, {swapped(t, "true", "True"), api.ErrLex}, {swapped(t, "true", "truefalse"), api.ErrLex}, {swapped(t, `"v1"`, "\"v\n1\""), api.ErrLex}, {swapped(t, `"v1"`, "\"\xff\""), api.ErrLex}, {swapped(t, `"v1"`, `"\x76"`), api.ErrLex}, {swapped(t, `"v1"`, `"v1`), api.ErrLex},
		{swapped(t, `{"headerId":7`, `{"headerId":7,"headerId":7`), api.ErrTwice}, {swapped(t, `"orderId":3`, `"orderId":3,"order\u0049d":4`), api.ErrTwice}, {swapped(t, `"live":true`, `"live":true,"live":true`), api.ErrTwice}, {`{"a":1,"a":1}`, api.ErrTwice}, {`[{"x":{"a":1,"a"`, api.ErrTwice}, {more(`0,"x":0`), api.ErrTwice}, {more(`0,"boot":2`), api.ErrTwice}, {more(`{"y":0,"y":0}`), api.ErrTwice},
		{deep(17), api.ErrDeep}, {deep(5000), api.ErrDeep}, {more(deep(16)), api.ErrDeep},
		{deep(16), api.ErrState}, {more("{}"), api.OK}, {more(deep(15)), api.OK},
	} {
		if x.errno == api.OK {
			wantTaken(t, x.text, some())
		} else {
			wantRefused(t, x.text, x.errno)
		}
	}
}

// TestTakeLong: a text of 20000 bytes is taken, one with a byte more is not.
func TestTakeLong(t *testing.T) {
	long := someText + strings.Repeat(" ", 20000-len(someText))
	wantTaken(t, long, some())
	wantRefused(t, long+" ", api.ErrLex)
	wantRefused(t, someText+strings.Repeat(" ", 1<<20), api.ErrLex)
	filled := strings.Replace(someText, "{", `{"x":"`+strings.Repeat("x", 20000-len(someText)-7)+`",`, 1)
	wantTaken(t, filled, some())
	wantRefused(t, strings.Replace(filled, "xx", "xxx", 1), api.ErrLex)
	wantRefused(t, `{"boot":[`+strings.Repeat("0,", 9000)+`0]}`, api.ErrState)
}

// TestTakeNoObject: a value that is no object tells no state.
func TestTakeNoObject(t *testing.T) {
	for _, text := range []string{"null", "true", "false", "0", "7", "-1.5", `""`, `"{}"`, "[]", "{}", "[{}]", "[" + someText + "]", `{"state":` + someText + "}", `["headerId",7]`, "[" + strings.ReplaceAll(someText[1:len(someText)-1], ":", ",") + "]"} {
		wantRefused(t, text, api.ErrState)
	}
}

// TestTakeMissing: each field may not be missing, nor have another name, nor stand elsewhere.
func TestTakeMissing(t *testing.T) {
	for i, pair := range somePairs {
		rest := strings.Join(slices.Delete(slices.Clone(somePairs), i, i+1), ",")
		wantRefused(t, "{"+rest+"}", api.ErrState)
		wantRefused(t, "{"+rest+`,"x":{`+pair+"}}", api.ErrState)
		wantRefused(t, "{"+rest+`,"x":[{`+pair+"}]}", api.ErrState)
		wantRefused(t, "{"+pair+"}", api.ErrState)
		wantRefused(t, "[{"+pair+"},{"+rest+"}]", api.ErrState)
		quoted, value, _ := strings.Cut(pair, ":")
		name := strings.Trim(quoted, `"`)
		for _, other := range []string{"x", "", strings.ToUpper(name), strings.ToUpper(name[:1]) + name[1:], name + "s", name + " ", name[1:], name[:len(name)-1], " " + name, `\u0000` + name, name + `\u0000`} {
			wantRefused(t, "{"+rest+`,"`+other+`":`+value+"}", api.ErrState)
		}
	}
}

// TestTakeOtherKinds: each field is of its kind, and each number whole.
func TestTakeOtherKinds(t *testing.T) {
	values := []string{"null", "true", "false", "8", `"v2"`, `"8"`, `"true"`, `""`, "[]", "{}", `["v1"]`, "[8]", "[true]", `{"a":8}`, "8.5", "-8", "0.1", "8e-1", "1e-9", "8.000000001"}
	for _, pair := range somePairs {
		name, value, _ := strings.Cut(pair, ":")
		may := []string{"8"}
		switch value {
		case "true":
			may = []string{"true"}
			if name == `"driving"` {
				may = append(may, "false")
			}
		case `"v1"`:
			may = []string{`"v2"`, `"8"`, `"true"`}
		}
		for _, v := range values {
			text := swapped(t, pair, name+":"+v)
			if !slices.Contains(may, v) {
				wantRefused(t, text, api.ErrState)
			} else if _, e := state.Take(sealed(text)); e != api.OK {
				t.Errorf("Take(%q): %d", text, e)
			}
		}
	}
}

// TestTakeNotRight: what is told in its form may be a state that is not right.
func TestTakeNotRight(t *testing.T) {
	for _, s := range wrongStates() {
		if text := textOf(s); len(text) <= 20000 && s.Vehicle == strings.Map(printable, s.Vehicle) && !hasHuge(s) {
			wantRefused(t, text, api.ErrState)
		}
	}
	for _, name := range []string{`""`, `"v 1"`, `"v/1"`, `"\u0000"`, `"v1\n"`, `"é"`, `"v1\u0020"`, `"abcdefghijklmnopq"`, `"\""`, `"\\"`, `"` + strings.Repeat("v", 10000) + `"`} {
		wantRefused(t, swapped(t, `"v1"`, name), api.ErrState)
	}
	for _, pair := range somePairs {
		name, value, _ := strings.Cut(pair, ":")
		if value == "true" || value == `"v1"` {
			continue
		}
		for _, n := range []string{"-1", "-4", "1000000001", "1000000002", "-1000000000", "123456789012345e3", "-999999999999999e9", "1.000000001e9", "1000000000.5", "-0.5", "2.5"} {
			wantRefused(t, swapped(t, pair, name+":"+n), api.ErrState)
		}
		wantRefused(t, swapped(t, pair, name+":1e5000"), api.ErrLex)
	}
	for _, seq := range []string{"1", "3", "5", "999999999", "0.1e1", "30e-1", "1000000001"} {
		wantRefused(t, swapped(t, `"lastNodeSequenceId":4`, `"lastNodeSequenceId":`+seq), api.ErrState)
	}
	wantRefused(t, swapped(t, `"live":true`, `"live":false`), api.ErrState)
	wantTaken(t, swapped(t, `"driving":true`, `"driving":false`), with(some(), func(s *api.State) { s.Driving = false }))
	wantTaken(t, strings.ReplaceAll(someText, "true", "false"), with(some(), func(s *api.State) { s.Live, s.Driving = false, false }))
}

// printable drops what can't stand in a JSON string as it is.
func printable(r rune) rune {
	if r < 32 || r == '"' || r == '\\' || r == '\ufffd' {
		return -1
	}
	return r
}

// hasHuge tells whether a number of s is one that JSON texts can't tell (chapter 1).
func hasHuge(s api.State) bool {
	return slices.ContainsFunc(numbers, func(x number) bool { return x.of(s) > 1e12 || x.of(s) < -1e12 })
}

// wild is a text that tells s, in another way by chance; mostly one of its fields is wrong, and it tells whether that is so.
func wild(chance *rand.Rand, s api.State) (string, bool) {
	spoil := chance.Intn(13)
	var fields []string
	for i, pair := range strings.Split(strings.Trim(textOf(s), "{}"), ",") {
		name, value, _ := strings.Cut(pair, ":")
		if value[0] >= '0' && value[0] <= '9' {
			value = otherNumber(chance, value)
		}
		if i == spoil && chance.Intn(3) == 0 {
			continue
		}
		if i == spoil && chance.Intn(3) == 0 {
			name = name[:len(name)-1] + `_"`
		} else if i == spoil {
			value = wrongValue(chance, value)
		}
		fields = append(fields, blank(chance)+name+blank(chance)+":"+blank(chance)+value+blank(chance))
	}
	for i := range chance.Intn(3) {
		fields = append(fields, fmt.Sprintf(`"x%d":%s`, i, []string{"null", "7.5", `{"headerId":[]}`, `"é"`, "[1,[2]]"}[chance.Intn(5)]))
	}
	chance.Shuffle(len(fields), func(i, j int) { fields[i], fields[j] = fields[j], fields[i] })
	return blank(chance) + "{" + strings.Join(fields, ",") + "}" + blank(chance), spoil < 10
}

// otherNumber is a whole number's text in another way.
func otherNumber(chance *rand.Rand, value string) string {
	if value == "0" {
		return []string{"0", "-0", "0.0", "0e7", "-0.00E-3"}[chance.Intn(5)]
	}
	return value + []string{"", ".0", "e0", ".00E+0", "0e-1"}[chance.Intn(5)]
}

// wrongValue is one that may not stand in the place of a value.
func wrongValue(chance *rand.Rand, value string) string {
	switch value[0] {
	case '"':
		return []string{"null", "7", `""`, `"a b"`, `["v"]`, "false", `"01234567890123456"`}[chance.Intn(7)]
	case 't', 'f':
		return []string{"null", "1", "0", `"true"`, "[]", "{}"}[chance.Intn(6)]
	}
	return []string{"null", `"7"`, "0.5", "-1", "true", "[1]", "1000000001", "{}"}[chance.Intn(8)]
}

func blank(chance *rand.Rand) string { return []string{"", "", "", " ", "\n", "\t\r"}[chance.Intn(6)] }

func TestTakeMany(t *testing.T) {
	chance := rand.New(rand.NewSource(4))
	for range 20000 {
		s := anyState(chance)
		if text, wrong := wild(chance, s); wrong {
			wantRefused(t, text, api.ErrState)
		} else {
			wantTaken(t, text, s)
		}
		if s = bent(chance, s); isRight(s) {
			wantTaken(t, textOf(s), s)
		} else if s.Vehicle == strings.Map(printable, s.Vehicle) {
			wantRefused(t, textOf(s), api.ErrState)
		}
	}
}
