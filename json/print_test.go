package json_test

import (
	standard "encoding/json"
	"math/rand"
	"slices"
	"strings"
	"testing"

	"humpyard/api"
	"humpyard/decimal"
	"humpyard/json"
	"humpyard/quote"
)

// printed is what Print must answer of a right value.
func printed(v api.Json) string {
	var parts []string
	for i, item := range v.Items {
		part := printed(item)
		if v.Kind == 7 {
			name, _ := quote.Quote(v.Names[i])
			part = name + ":" + part
		}
		parts = append(parts, part)
	}
	told, _ := quote.Quote(v.Text)
	return [...]string{
		1: "null", 2: "false", 3: "true", 4: decimal.Print(v.Num), 5: told,
		6: "[" + strings.Join(parts, ",") + "]", 7: "{" + strings.Join(parts, ",") + "}",
	}[v.Kind]
}

func wantPrint(t *testing.T, v api.Json, want string) {
	t.Helper()
	if got := json.Print(v); got != want {
		t.Errorf("Print(%s): %s; want %s", told(v), short(got), short(want))
	}
}

// J2

func TestPrintTable(t *testing.T) {
	for _, x := range []struct {
		v    api.Json
		want string
	}{
		{null, "null"}, {no, "false"}, {yes, "true"},
		{num(0, 0), "0"}, {one, "1"}, {num(-15, 0), "-15"}, {num(12, 1), "120"}, {num(25, -3), "0.025"}, {num(-15, -1), "-1.5"}, {num(1, 9), "1000000000"},
		{text(""), `""`}, {text("a"), `"a"`}, {text("null"), `"null"`}, {text("a\"\x01\\/\n"), `"a\"\u0001\\/\n"`}, {text("é😀\x7f"), "\"é😀\x7f\""},
		{array(), "[]"}, {array(null), "[null]"}, {array(one, num(2, 0), num(3, 0)), "[1,2,3]"}, {array(array(), array(array())), "[[],[[]]]"},
		{object(nil), "{}"}, {object(names("a"), one), `{"a":1}`}, {object(names(""), text("")), `{"":""}`},
		{object(names("a", "b"), one, null), `{"a":1,"b":null}`}, {object(names("b", "a"), one, null), `{"b":1,"a":null}`},
		{object(names("a\"b", "\t", "é"), array(), object(nil), yes), `{"a\"b":[],"\t":{},"é":true}`},
		{object(names("a"), array(num(15, -1), null)), `{"a":[1.5,null]}`},
		{array(object(names("x"), one), object(names("x"), one)), `[{"x":1},{"x":1}]`},
		{nested(one, 4), `{"n":[{"n":[1]}]}`},
		{nested(array(), 15), `[{"n":[{"n":[{"n":[{"n":[{"n":[{"n":[{"n":[[]]}]}]}]}]}]}]}]`},
		{api.Json{Kind: api.Array, Names: []string{}, Items: []api.Json{}}, "[]"},
		{api.Json{Kind: api.Null, Names: []string{}, Items: []api.Json{}}, "null"},
	} {
		wantPrint(t, x.v, x.want)
	}
	for _, v := range rightValues {
		wantPrint(t, v, printed(v))
	}
}

func TestPrintWrong(t *testing.T) {
	for _, v := range slices.Concat(wrongValues, foreign()) {
		wantPrint(t, v, "")
		wantPrint(t, array(v), "")
		wantPrint(t, array(one, v), "")
		wantPrint(t, object(names("a", "b"), v, null), "")
		wantPrint(t, nested(v, 9), "")
	}
}

func TestPrintDepth(t *testing.T) {
	for count := range 20 {
		for _, v := range rightValues {
			want := ""
			if height(v)+count <= 16 {
				want = printed(nested(v, count))
			}
			wantPrint(t, nested(v, count), want)
		}
	}
}

// TestPrintLong: a value's text may be longer than one that is parsed.
func TestPrintLong(t *testing.T) {
	long := array()
	for range 50000 {
		long.Items = append(long.Items, null)
	}
	wantPrint(t, long, "["+strings.Repeat("null,", 49999)+"null]")
	wantPrint(t, text(strings.Repeat("a", 30000)), `"`+strings.Repeat("a", 30000)+`"`)
}

func TestPrintMany(t *testing.T) {
	chance := rand.New(rand.NewSource(4))
	for range 20000 {
		v := anyValue(chance, 1+chance.Intn(6))
		s := json.Print(v)
		wantPrint(t, v, printed(v))
		if !standard.Valid([]byte(s)) {
			t.Errorf("Print(%+v): %q is no JSON", v, s)
		}
		v = bent(chance, v)
		if isRight(v) {
			wantPrint(t, v, printed(v))
		} else {
			wantPrint(t, v, "")
		}
	}
}
