package json_test

import (
	"bytes"
	standard "encoding/json"
	"math/rand"
	"reflect"
	"slices"
	"strings"
	"testing"

	"humpyard/api"
	"humpyard/decimal"
	"humpyard/json"
	"humpyard/lexer"
)

func wantParse(t *testing.T, s string, want api.Json) {
	t.Helper()
	got, e, at := json.Parse(s)
	if !isSame(got, want) || e != api.OK || at != 0 {
		t.Errorf("Parse(%q): %s, %d, %d; want %s", short(s), told(got), e, at, told(want))
	}
}

func wantFault(t *testing.T, s string, errno api.Errno, place int) {
	t.Helper()
	got, e, at := json.Parse(s)
	if !reflect.DeepEqual(got, empty) || e != errno || at != place {
		t.Errorf("Parse(%q): %s, %d, %d; want an error: %d, %d", short(s), told(got), e, at, errno, place)
	}
}

// What may come next, in the chapter's grammar said anew: as a machine with a stack, which knows of each token whether what was read and it begin some text of a value.
const (
	wantsValue  = iota // a value
	wantsFirst         // an array's first value, or its end
	wantsName          // a name
	wantsPair          // an object's first name, or its end
	wantsColon         // what is between a name and its item
	wantsMore          // a comma, or the end of what is open
	wantsNoMore        // the end
)

type machine struct {
	open  []map[string]bool // the names of each object that is open; of an array nil
	wants int
}

// step is the error at a token, if there is one.
func (m *machine) step(t api.Token) api.Errno {
	if t.Kind == api.TokEnd {
		if m.wants != wantsNoMore {
			return 40
		}
		return 0
	}
	sign := ""
	if t.Kind == api.TokSign {
		sign = t.Text
	}
	switch {
	case sign == "]" && (m.wants == wantsFirst || m.wants == wantsMore && m.inArray()):
		m.leave()
	case sign == "}" && (m.wants == wantsPair || m.wants == wantsMore && !m.inArray()):
		m.leave()
	case sign == "," && m.wants == wantsMore && m.inArray():
		m.wants = wantsValue
	case sign == "," && m.wants == wantsMore:
		m.wants = wantsName
	case sign == ":" && m.wants == wantsColon:
		m.wants = wantsValue
	case t.Kind == api.TokText && (m.wants == wantsName || m.wants == wantsPair):
		if m.open[len(m.open)-1][t.Text] {
			return 42
		}
		m.open[len(m.open)-1][t.Text] = true
		m.wants = wantsColon
	case (sign == "" || sign == "[" || sign == "{") && (m.wants == wantsValue || m.wants == wantsFirst):
		if len(m.open) == 16 {
			return 41
		}
		m.enter(sign)
	default:
		return 40
	}
	return 0
}

func (m *machine) inArray() bool { return m.open[len(m.open)-1] == nil }

func (m *machine) enter(sign string) {
	switch sign {
	case "[":
		m.open = append(m.open, nil)
		m.wants = wantsFirst
	case "{":
		m.open = append(m.open, map[string]bool{})
		m.wants = wantsPair
	default:
		m.behind()
	}
}

func (m *machine) leave() {
	m.open = m.open[:len(m.open)-1]
	m.behind()
}

func (m *machine) behind() {
	m.wants = wantsMore
	if len(m.open) == 0 {
		m.wants = wantsNoMore
	}
}

// fault is the error that Parse must answer, and its place.
func fault(s string) (api.Errno, int) {
	tokens, e, at := lexer.Scan(s)
	if e != 0 {
		return e, at
	}
	m := machine{}
	for _, t := range tokens {
		if e := m.step(t); e != 0 {
			return e, t.At
		}
	}
	return 0, 0
}

// decoded is the value of a text that is JSON, by the library.
func decoded(t *testing.T, s string) api.Json {
	t.Helper()
	from := standard.NewDecoder(bytes.NewReader([]byte(s)))
	from.UseNumber()
	return decodeNext(t, from)
}

func decodeNext(t *testing.T, from *standard.Decoder) api.Json {
	t.Helper()
	token, err := from.Token()
	if err != nil {
		t.Fatal(err)
	}
	switch x := token.(type) {
	case nil:
		return null
	case bool:
		if x {
			return yes
		}
		return no
	case standard.Number:
		d, _ := decimal.Parse(x.String())
		return api.Json{Kind: api.Number, Num: d}
	case string:
		return text(x)
	}
	v := api.Json{Kind: api.Array}
	if token == standard.Delim('{') {
		v.Kind = api.Object
	}
	for from.More() {
		if v.Kind == api.Object {
			name, _ := from.Token()
			v.Names = append(v.Names, name.(string))
		}
		v.Items = append(v.Items, decodeNext(t, from))
	}
	from.Token()
	return v
}

func checkParse(t *testing.T, s string) {
	t.Helper()
	if e, at := fault(s); e != 0 {
		wantFault(t, s, e, at)
	} else {
		wantParse(t, s, decoded(t, s))
	}
}

// J3: values

func TestParseTable(t *testing.T) {
	for s, want := range map[string]api.Json{
		"null": null, "false": no, "true": yes, " null ": null, "\t\r\n true\n": yes,
		"0": num(0, 0), "-0": num(0, 0), "1": one, "1.50": num(15, -1), "-1.50e1": num(-15, 0), "100": num(1, 2), "1E+9": num(1, 9), "0.000000001": num(1, -9), "999999999999999e9": num(999_999_999_999_999, 9),
		`""`: text(""), `"a"`: text("a"), `"\u0041\n\/"`: text("A\n/"), `"\ud83d\ude00"`: text("😀"), `"null"`: text("null"), `"["`: text("["), `"]"`: text("]"), `"{"`: text("{"), `","`: text(","),
		"[]": array(), " [ ] ": array(), "[\n\t\r ]": array(), "[1]": array(one), "[ 1 , 1 ]": array(one, one), "[1,null,true,false,\"a\"]": array(one, null, yes, no, text("a")),
		"[[]]": array(array()), "[[],[]]": array(array(), array()), "[[1],[[1]],1]": array(array(one), array(array(one)), one), "[{}]": array(object(nil)), "[{},[{}]]": array(object(nil), array(object(nil))),
		"{}": object(nil), " { } ": object(nil), `{"a":1}`: object(names("a"), one), ` { "a" : 1 } `: object(names("a"), one), `{"":null}`: object(names(""), null),
		`{"a":1,"b":true}`: object(names("a", "b"), one, yes), `{"b":1,"a":true}`: object(names("b", "a"), one, yes), `{"a":"a","A":"a"}`: object(names("a", "A"), text("a"), text("a")),
		`{"a":{"a":{"a":{}}}}`: object(names("a"), object(names("a"), object(names("a"), object(nil)))), `[{"a":1},{"a":1}]`: array(object(names("a"), one), object(names("a"), one)),
		`{"\u0061":1,"\u0062":null}`: object(names("a", "b"), one, null), `{"]":[],"}":{},",":":",":":","}`: object(names("]", "}", ",", ":"), array(), object(nil), text(":"), text(",")),
		` {"a" : [1.50, null]} `:                   object(names("a"), array(num(15, -1), null)),
		`["]","[","}","{",",",":","true"]`:         array(text("]"), text("["), text("}"), text("{"), text(","), text(":"), text("true")),
		`{"a":[{"b":[[],{}]},"c"],"d":{"a":null}}`: object(names("a", "d"), array(object(names("b"), array(array(), object(nil))), text("c")), object(names("a"), null)),
	} {
		wantParse(t, s, want)
		checkParse(t, s)
	}
}

func TestParsePrintExample(t *testing.T) {
	v, _, _ := json.Parse(` {"a" : [1.50, null]} `)
	wantPrint(t, v, `{"a":[1.5,null]}`)
	wantFault(t, `{"a":1,"a"`, api.ErrTwice, 7)
}

func TestParseBlanks(t *testing.T) {
	tokens := []string{"{", `"a"`, ":", "[", "1", ",", "{", "}", ",", "[", "]", "]", ",", `"b"`, ":", "null", "}"}
	want := object(names("a", "b"), array(one, object(nil), array()), null)
	for _, blank := range []string{"", " ", "\t", "\n", "\r", " \r\n\t "} {
		wantParse(t, blank+strings.Join(tokens, blank)+blank, want)
	}
}

// J3: errors

func TestParseNotScanned(t *testing.T) {
	for s, place := range map[string]int{
		"x": 0, "[x]": 1, "nul": 0, "[1,01]": 3, `{"a":1e99}`: 5, `["a`: 1, `{"a\q":1}`: 1, "[\x00]": 1, "\"\xff\"": 0, "+1": 0, "\ufeff1": 0, "'a'": 0,
		// what is wrong ahead of it does not count: nothing is parsed that is not scanned
		"] x": 2, "1 2 x": 4, `{"a":1,"a":x}`: 11, "[,] \"": 4, strings.Repeat("[", 17) + "x": 17,
	} {
		wantFault(t, s, api.ErrLex, place)
		checkParse(t, s)
	}
}

func TestParseLength(t *testing.T) {
	for _, s := range []string{"1", "[]", `{"a":[null]}`, `"` + strings.Repeat("a", 19000) + `"`} {
		want := decoded(t, s)
		room := 20000 - len(s)
		wantParse(t, s+strings.Repeat(" ", room), want)
		wantParse(t, strings.Repeat("\n", room)+s, want)
		wantFault(t, s+strings.Repeat(" ", room+1), api.ErrLex, 0)
		wantFault(t, strings.Repeat("\n", room+1)+s, api.ErrLex, 0)
	}
	whole := `"` + strings.Repeat("a", 19998) + `"`
	wantParse(t, whole, text(whole[1:19999]))
	wantFault(t, whole[:1]+whole, api.ErrLex, 0)
	full := "[" + strings.Repeat("1,", 9998) + "10]"
	if v, e, at := json.Parse(full); len(full) != 20000 || len(v.Items) != 9999 || e != api.OK || at != 0 {
		t.Errorf("%d bytes: %d items, %d, %d", len(full), len(v.Items), e, at)
	}
	wantFault(t, full[:19999]+"0]", api.ErrLex, 0)
	wantFault(t, strings.Repeat("1,", 10000), api.ErrJson, 1)
}

func TestParseNoValue(t *testing.T) {
	for s, place := range map[string]int{
		// nothing at all, and what begins none
		"": 0, "  ": 2, "\n": 1, "]": 0, "}": 0, ",": 0, ":": 0, " ]": 1, ",1": 0,
		// more than one
		"1 2": 2, "1,2": 1, "null null": 5, "[] []": 3, "{}{}": 2, "[]]": 2, "{}}": 2, "[],": 2, `"a""b"`: 3, `"a":1`: 3, "1 ]": 2, "true[": 4,
		// arrays
		"[": 1, "[ ": 2, "[1": 2, "[1 ": 3, "[1,": 3, "[1, ": 4, "[1,]": 3, "[,]": 1, "[,1]": 1, "[1,,1]": 3, "[1 1]": 3, "[1:1]": 2, "[:1]": 1, "[1}": 2, "[}": 1, "[[]": 3, "[[1,]]": 4, "[[1}]": 3, `["a":1]`: 4, "[1,}": 3,
		// objects
		"{": 1, "{ ": 2, `{"a"`: 4, `{"a":`: 5, `{"a": `: 6, `{"a":1`: 6, `{"a":1,`: 7, `{"a":1,}`: 7, "{,}": 1, `{,"a":1}`: 1, `{"a"}`: 4, `{"a":}`: 5, `{"a",}`: 4, `{"a" 1}`: 5, `{"a" "b"}`: 5, `{"a" "a"}`: 5, `{"a"::1}`: 5,
		"{1:2}": 1, "{null:1}": 1, "{true:1}": 1, "{[]:1}": 1, "{{}:1}": 1, "{:1}": 1, "{]": 1, `{"a"]`: 4, `{"a":]`: 5, `{"a":1]`: 6, `{"a":1 "b":2}`: 7, `{"a":1 "a":2}`: 7, `{"a":1,,"b":2}`: 7, `{"a":1,2:3}`: 7, `{"a":1:2}`: 6, `{"a":1,"b"}`: 10, `{"a":1,[]`: 7,
		// within one another
		`[{"a":[1,{"b":}]}]`: 14, `{"a":{"b":[1,2}}`: 14, `[1,[2,[3,[4`: 11, `{"a":[{"b":[{}]}`: 16,
		// texts are no signs
		`"["]`: 3, `["]"`: 4, `["a""]"`: 4, `["a"","1]`: 4, `{"a"":"1}`: 4, `{"a":1"}"`: 6, `{"a":1","`: 6,
	} {
		wantFault(t, s, api.ErrJson, place)
		checkParse(t, s)
	}
}

func TestParseTwice(t *testing.T) {
	for s, place := range map[string]int{
		`{"a":1,"a"`: 7, `{"a":1,"a":2}`: 7, `{"a":1, "a" :2}`: 8, `{"":1,"":1}`: 6, `{"a":1,"b":2,"a":3}`: 13, `{"a":1,"b":2,"b":3}`: 13,
		`{"a":1,"\u0061":2}`: 7, `{"\u0061":1,"a":2}`: 12, `{"\n":1,"\u000a":2}`: 8, `{"/":1,"\/":2}`: 7, `{"😀":1,"\ud83d\ude00":2}`: 10,
		`[{"a":1},{"a":1,"a":1}]`: 16, `{"a":{"b":1,"b":2}}`: 12, `{"a":{"a":1},"a":2}`: 13, `{"a":[{"a":1}],"b":{"a":1},"a":1}`: 27,
		// whatever is behind it
		`{"a":1,"a"}`: 7, `{"a":1,"a",`: 7, `{"a":1,"a"]`: 7, `{"a":1,"a" "a"`: 7, `{"a":1,"a":}`: 7, `{"a":1,"a":1,]`: 7, `{"a":1,"a":1} 1`: 7, `{"a":1,"a":` + strings.Repeat("[", 20): 7,
	} {
		wantFault(t, s, api.ErrTwice, place)
		checkParse(t, s)
	}
}

func TestParseDeep(t *testing.T) {
	for _, x := range []struct{ open, close string }{{"[", "]"}, {`{"a":`, "}"}, {"[[], ", "]"}, {`{"b":{},"a" : `, "}"}, {"[", " , null]"}} {
		for _, inner := range []string{"1", "null", "true", `"a"`, "[]", "{}", "[ ]"} {
			s := strings.Repeat(x.open, 15) + inner + strings.Repeat(x.close, 15)
			wantParse(t, s, decoded(t, s))
		}
	}
	for _, open := range []string{"[", `{"a":`} {
		at := 16 * len(open)
		for _, s := range []string{"1", "-1.5", "null", "true", "false", `"a"`, "[", "{", "[]", "{}", "1]", "1,", "null null", "[1"} {
			wantFault(t, strings.Repeat(open, 16)+s, api.ErrDeep, at)
			wantFault(t, strings.Repeat(open, 16)+" "+s, api.ErrDeep, at+1)
		}
		for _, s := range []string{"", ",", ":"} {
			wantFault(t, strings.Repeat(open, 16)+s, api.ErrJson, at)
		}
	}
	wantParse(t, strings.Repeat("[", 16)+strings.Repeat("]", 16), nestedArrays(16))
	wantFault(t, strings.Repeat("[", 17)+strings.Repeat("]", 17), api.ErrDeep, 16)
	wantFault(t, strings.Repeat("[", 20000), api.ErrDeep, 16)
	wantFault(t, strings.Repeat("[", 16)+"}", api.ErrJson, 16)
	wantFault(t, strings.Repeat(`{"a":`, 16)+"}", api.ErrJson, 80)
	wantFault(t, strings.Repeat("[", 15)+"{1", api.ErrJson, 16)
	wantFault(t, strings.Repeat("[", 15)+`{"a"`, api.ErrJson, 19)
	wantFault(t, strings.Repeat("[", 15)+`{"a" 1`, api.ErrJson, 20)
	wantFault(t, strings.Repeat("[", 15)+`{"a":1`, api.ErrDeep, 20)
	// Depth goes back where something ends.
	wantFault(t, strings.Repeat("[", 16)+"],[],1,[1", api.ErrDeep, 24)
	wantParse(t, "["+strings.Repeat("[],", 100)+"{}]", api.Json{Kind: api.Array, Items: append(slices.Repeat([]api.Json{array()}, 100), object(nil))})
}

func nestedArrays(count int) api.Json {
	v := array()
	for range count - 1 {
		v = array(v)
	}
	return v
}

// TestParseFirst: of several faults it is the first one that is told, whichever it is.
func TestParseFirst(t *testing.T) {
	wantFault(t, strings.Repeat("[", 16)+`1,]`, api.ErrDeep, 16)
	wantFault(t, `[1,],`+strings.Repeat("[", 17), api.ErrJson, 3)
	wantFault(t, `[{"a":1,"a":2},]`, api.ErrTwice, 8)
	wantFault(t, `[{"a":1,},{"a":1,"a":2}]`, api.ErrJson, 8)
	wantFault(t, strings.Repeat("[", 15)+`{"a":{"b":1,"b":2}}`, api.ErrDeep, 20)
	wantFault(t, `{"a":1,"a":`+strings.Repeat("[", 17), api.ErrTwice, 7)
}

// pieces are tokens' texts; none runs together with another one behind it, once a blank is between.
var pieces = []string{"[", "]", "{", "}", ",", ":", "1", `"a"`, `"b"`, "null"}

func TestParseShortTexts(t *testing.T) {
	texts := []string{""}
	for range 6 {
		var longer []string
		for _, s := range texts {
			checkParse(t, s)
			// What is wrong already stays so, whatever is behind.
			if e, at := fault(s); e != 0 && at < len(s) {
				continue
			}
			for _, p := range pieces {
				longer = append(longer, s+p+" ")
			}
		}
		texts = longer
	}
}

func TestParseManyTexts(t *testing.T) {
	chance := rand.New(rand.NewSource(5))
	faults := map[api.Errno]int{}
	for range 40000 {
		v := anyValue(chance, 1+chance.Intn(6))
		s := printed(v)
		if len(v.Names) > 1 {
			v.Names[len(v.Names)-1] = v.Names[0]
			checkParse(t, printed(v))
		}
		if chance.Intn(8) == 0 {
			s = strings.Repeat("[", 12) + s + strings.Repeat("]", 12)
		}
		checkParse(t, s)
		spoiled := []byte(s)
		spoiled[chance.Intn(len(spoiled))] = "{}[],:\"\\1ab \xff"[chance.Intn(13)]
		at := chance.Intn(len(s) + 1)
		for _, s := range []string{string(spoiled), s[:at], s[:at] + s[min(at+1, len(s)):], s[:at] + pieces[chance.Intn(len(pieces))] + s[at:], s[:at] + s[chance.Intn(len(s)):]} {
			checkParse(t, s)
			e, _ := fault(s)
			faults[e]++
		}
	}
	for _, e := range []api.Errno{api.OK, api.ErrLex, api.ErrJson, api.ErrDeep, api.ErrTwice} {
		if faults[e] < 30 {
			t.Errorf("only %d texts with error %d", faults[e], e)
		}
	}
}

func TestParseManyBytes(t *testing.T) {
	chance := rand.New(rand.NewSource(6))
	for range 50000 {
		s := make([]byte, chance.Intn(12))
		for i := range s {
			s[i] = byte(chance.Intn(256))
			if chance.Intn(4) > 0 {
				s[i] = "{}[],:\"a1 "[chance.Intn(10)]
			}
		}
		checkParse(t, string(s))
	}
}

// TestParseAnswersAreTheOwners: whoever writes into an answer's lists, or into the room behind them, changes no other list.
func TestParseAnswersAreTheOwners(t *testing.T) {
	const s = `{"a":[1,[2,3,4],{"b":null,"c":[],"d":1}],"b":[5,6,7],"c":{"x":1,"y":2,"z":3}}`
	want := decoded(t, s)
	paths := [][]int{{}, {0}, {0, 1}, {0, 2}, {0, 2, 1}, {1}, {2}}
	for _, path := range paths {
		first, _, _ := json.Parse(s)
		second, _, _ := json.Parse(s)
		spoilt, left := &first, copied(want)
		at := &left
		for _, i := range path {
			spoilt, at = &spoilt.Items[i], &at.Items[i]
		}
		fill(spoilt.Names[:cap(spoilt.Names)], "spoilt")
		fill(spoilt.Items[:cap(spoilt.Items)], text("spoilt"))
		fill(at.Names, "spoilt")
		fill(at.Items, text("spoilt"))
		if !isSame(first, left) {
			t.Errorf("writing into the lists at %v changed another one: %+v; want %+v", path, first, left)
		}
		if !isSame(second, want) {
			t.Errorf("writing into the lists at %v changed another answer: %+v", path, second)
		}
	}
	wantParse(t, s, want)
}

func fill[T any](list []T, v T) {
	for i := range list {
		list[i] = v
	}
}
