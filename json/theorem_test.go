package json_test

import (
	"math/rand"
	"strings"
	"testing"

	"humpyard/api"
	"humpyard/json"
)

// J4

// checkUndoes: Parse undoes Print.
func checkUndoes(t *testing.T, v api.Json) {
	t.Helper()
	s := json.Print(v)
	if len(s) > 20000 {
		return
	}
	got, e, at := json.Parse(s)
	if s == "" || e != api.OK || at != 0 || !json.Same(got, v) {
		t.Errorf("%s is printed as %q, which is parsed to %s, %d, %d", told(v), short(s), told(got), e, at)
	}
}

// checkParsed: what is parsed is right, and, printed, is parsed to the same.
func checkParsed(t *testing.T, s string) {
	t.Helper()
	v, e, _ := json.Parse(s)
	if e != api.OK {
		return
	}
	if !json.Right(v) {
		t.Errorf("Parse(%q): %+v, which is not right", short(s), v)
	}
	if again, e, _ := json.Parse(json.Print(v)); e != api.OK && len(json.Print(v)) <= 20000 || e == api.OK && !json.Same(v, again) {
		t.Errorf("%q is parsed to %+v, printed as %q, and parsed to %+v, %d", short(s), v, short(json.Print(v)), again, e)
	}
}

func TestParseUndoesPrint(t *testing.T) {
	for _, v := range rightValues {
		checkUndoes(t, v)
		for count := range 16 - height(v) {
			checkUndoes(t, nested(v, count))
		}
	}
	chance := rand.New(rand.NewSource(7))
	for range 20000 {
		v := anyValue(chance, 1+chance.Intn(7))
		checkUndoes(t, v)
		if v = bent(chance, v); json.Right(v) {
			checkUndoes(t, v)
		}
	}
	for range 300 {
		checkUndoes(t, anyValue(chance, 16))
	}
}

func TestParsedIsRight(t *testing.T) {
	for _, s := range []string{"1.50", "-0.0e5", "[ ]", `{"\u0061" : [1.50, null, "\/"]}`, "1000000000", "120e-1", `{"a":{},"b":[]}`, strings.Repeat("[", 16) + strings.Repeat("]", 16)} {
		if _, e, _ := json.Parse(s); e != api.OK {
			t.Errorf("Parse(%q): %d", s, e)
		}
		checkParsed(t, s)
	}
	chance := rand.New(rand.NewSource(8))
	pieces := append([]string{"1.50", "-0", "1e3", `"\u0061"`, `"\/"`, "true", "false"}, pieces...)
	for range 300000 {
		var s strings.Builder
		for range 1 + chance.Intn(7) {
			s.WriteString(pieces[chance.Intn(len(pieces))] + " ")
		}
		checkParsed(t, s.String())
	}
}

// TestUnlikeTexts: right values have one text, if they are the same, and only then.
func TestUnlikeTexts(t *testing.T) {
	chance := rand.New(rand.NewSource(9))
	values := rightValues
	for range 300 {
		v := anyValue(chance, 1+chance.Intn(4))
		values = append(values, v)
		if v = bent(chance, v); isRight(v) {
			values = append(values, v)
		}
	}
	for _, a := range values {
		for _, b := range values {
			if same := json.Print(a) == json.Print(b); same != json.Same(a, b) {
				t.Errorf("%+v and %+v: the same %v, with the same text %v", a, b, json.Same(a, b), same)
			}
		}
	}
}
