package json_test

import (
	"fmt"
	"math/rand"
	"reflect"
	"slices"
	"strings"
	"testing"
	"unicode/utf8"

	"humpyard/api"
	"humpyard/json"
)

// Values, as briefly as they can be said.

var (
	null  = api.Json{Kind: api.Null}
	no    = api.Json{Kind: api.False}
	yes   = api.Json{Kind: api.True}
	one   = num(1, 0)
	empty api.Json
)

func num(mant, exp int) api.Json {
	return api.Json{Kind: api.Number, Num: api.Decimal{Mant: mant, Exp: exp}}
}

func text(s string) api.Json { return api.Json{Kind: api.Text, Text: s} }

func array(items ...api.Json) api.Json { return api.Json{Kind: api.Array, Items: items} }

func names(all ...string) []string { return all }

func object(all []string, items ...api.Json) api.Json {
	return api.Json{Kind: api.Object, Names: all, Items: items}
}

// nested is v within so many arrays and objects by turns.
func nested(v api.Json, count int) api.Json {
	for i := range count {
		if i%2 == 0 {
			v = array(v)
		} else {
			v = object(names("n"), v)
		}
	}
	return v
}

// short is a text's beginning.
func short(s string) string { return s[:min(len(s), 200)] }

// told is a value, right or not, for a test's words.
func told(v api.Json) string { return short(fmt.Sprintf("%+v", v)) }

// What the chapter says of values, said anew.

// leveled is a value whose lists without elements are all nil.
func leveled(v api.Json) api.Json {
	if len(v.Names) == 0 {
		v.Names = nil
	}
	var items []api.Json
	for _, item := range v.Items {
		items = append(items, leveled(item))
	}
	v.Items = items
	return v
}

// isSame is what Same must answer.
func isSame(a, b api.Json) bool { return reflect.DeepEqual(leveled(a), leveled(b)) }

// height is how many values stand within one another.
func height(v api.Json) int {
	most := 0
	for _, item := range v.Items {
		most = max(most, height(item))
	}
	return most + 1
}

// owned is v with what its Kind has, and nothing else.
func owned(v api.Json) api.Json {
	switch v.Kind {
	case 1, 2, 3:
		return api.Json{Kind: v.Kind}
	case 4:
		return api.Json{Kind: 4, Num: v.Num}
	case 5:
		return api.Json{Kind: 5, Text: v.Text}
	case 6:
		return api.Json{Kind: 6, Items: v.Items}
	case 7:
		return api.Json{Kind: 7, Names: v.Names, Items: v.Items}
	}
	return api.Json{}
}

// isForm tells whether a number is in its one form.
func isForm(d api.Decimal) bool {
	if d.Mant == 0 {
		return d.Exp == 0
	}
	return d.Mant%10 != 0 && d.Mant >= -1e15 && d.Mant <= 1e15 && d.Exp >= -9 && d.Exp <= 9
}

// isRight is what Right must answer.
func isRight(v api.Json) bool {
	return height(v) <= 16 && isRightHere(v)
}

// isRightHere is isRight, whatever the depth.
func isRightHere(v api.Json) bool {
	if v.Kind < 1 || v.Kind > 7 || !isSame(v, owned(v)) || !isForm(v.Num) || !utf8.ValidString(v.Text) {
		return false
	}
	if v.Kind == 7 && len(v.Names) != len(v.Items) {
		return false
	}
	sorted := slices.Sorted(slices.Values(v.Names))
	if len(slices.Compact(sorted)) != len(v.Names) {
		return false
	}
	for _, name := range v.Names {
		if !utf8.ValidString(name) {
			return false
		}
	}
	for _, item := range v.Items {
		if !isRightHere(item) {
			return false
		}
	}
	return true
}

// rightValues are right, each in its own way.
var rightValues = []api.Json{
	null, no, yes,
	num(0, 0), one, num(-1, 0), num(25, -3), num(12, 1), num(999_999_999_999_999, 9), num(-999_999_999_999_999, -9), num(1, 9), num(1, -9),
	text(""), text("a"), text("null"), text("["), text("a\"\\\n\x00\x7f"), text("é€😀\ufffd\U0010ffff"),
	array(), {Kind: api.Array, Items: []api.Json{}}, {Kind: api.Array, Names: []string{}, Items: []api.Json{null}},
	{Kind: api.Null, Names: []string{}, Items: []api.Json{}}, {Kind: api.Text, Names: []string{}, Items: []api.Json{}, Text: "a"},
	{Kind: api.Number, Names: []string{}, Items: []api.Json{}, Num: api.Decimal{Mant: 1}},
	array(null), array(null, null), array(one, text("a"), no, array(), object(nil)), array(array(array(one), one), one),
	object(nil), {Kind: api.Object, Names: []string{}}, {Kind: api.Object, Items: []api.Json{}},
	object(names("a"), null), object(names(""), null), object(names("a", "b"), one, one), object(names("b", "a"), one, one), object(names("a", "A", "", " "), one, no, yes, null),
	object(names("a"), object(names("a"), object(names("a"), array(object(names("a"), null))))),
	object(names("é", "e\u0301", "\x00", "\ufffd"), null, text("é"), num(5, -1), array(yes)),
	array(object(names("a"), one), object(names("a"), one)),
	nested(null, 15), nested(text("deep"), 15), nested(array(), 15), nested(object(nil), 15), nested(one, 14),
}

// wrongValues are not right, each in its own way.
var wrongValues = []api.Json{
	// no Kind of the seven
	empty, {Kind: 8}, {Kind: -1}, {Kind: 1 << 40}, {Kind: api.Bool}, {Num: api.Decimal{Mant: 1}}, {Text: "a"}, {Items: []api.Json{null}}, {Kind: 8, Names: []string{"a"}, Items: []api.Json{null}},
	// numbers that are not in their form
	num(10, 0), num(-10, 0), num(0, 1), num(0, -1), num(1, 10), num(1, -10), num(1_000_000_000_000_001, 0), num(-1_000_000_000_000_001, 0), num(1_000_000_000_000_000, 0), num(-1<<63, 0), num(1, -1<<63), num(1, 1<<63-1),
	// texts that are not whole
	text("\xff"), text("a\x80"), text("\xed\xa0\x80"), text("\xc0\x80"), text("\xf4\x90\x80\x80"), text("é\xc3"),
	// objects whose names are not as many, are there twice, or are not whole
	object(names("a")), object(nil, null), object(names("a", "b"), null), object(names("a"), null, null), object(names("a", "b", "c"), null, null),
	object(names("a", "a"), one, one), object(names("a", "a"), one, null), object(names("", ""), one, one), object(names("a", "b", "a"), one, null, yes), object(names("b", "a", "a"), one, null, yes), object(names("a", "b", "c", "b"), one, one, one, one),
	object(names("\xff"), one), object(names("a", "\xc3"), one, one), object(names("\xed\xbf\xbf", "a"), one, one),
	// items that are not right
	array(empty), array(null, empty), array(empty, null), array(num(10, 0)), array(text("\xff")), object(names("a"), empty), object(names("a", "b"), null, num(0, 1)),
	array(array(array(text("\x80")))), array(one, object(names("a"), array(one, object(names("b", "b"), one, one)))),
	// too deep
	nested(null, 16), nested(array(), 16), nested(object(nil), 16), nested(one, 17), nested(text("a"), 200), array(one, nested(null, 15)), object(names("a", "b"), one, nested(null, 15)),
}

// foreign are values that have what their Kind does not have.
func foreign() []api.Json {
	var out []api.Json
	add := func(v api.Json, spoil func(*api.Json)) {
		spoil(&v)
		out = append(out, v)
	}
	for _, v := range []api.Json{null, no, yes, one, num(0, 0), text("a"), text(""), array(), array(one), object(nil), object(names("a"), one)} {
		if v.Kind != api.Number {
			add(v, func(v *api.Json) { v.Num.Mant = 1 })
			add(v, func(v *api.Json) { v.Num.Exp = 1 })
			add(v, func(v *api.Json) { v.Num = api.Decimal{Mant: -25, Exp: -3} })
		}
		if v.Kind != api.Text {
			add(v, func(v *api.Json) { v.Text = "x" })
			add(v, func(v *api.Json) { v.Text = "\x00" })
		}
		if v.Kind != api.Object {
			add(v, func(v *api.Json) { v.Names = names("n") })
			add(v, func(v *api.Json) { v.Names, v.Items = names("n"), []api.Json{null} })
		}
		if v.Kind != api.Array && v.Kind != api.Object {
			add(v, func(v *api.Json) { v.Items = []api.Json{null} })
		}
	}
	return out
}

// someTexts are Whole.
var someTexts = []string{"", "a", "b", "A", "ab", "null", "]", ",", ":", "\"", "\\", "/", "\n", "\x00", "\x1f", " ", "\x7f", "é", "\ufffd", "😀", `\u0041`}

// anyValue is a right value, made by chance, of at most so many values within one another.
func anyValue(chance *rand.Rand, high int) api.Json {
	kind := 1 + chance.Intn(7)
	if high == 1 {
		kind = 1 + chance.Intn(5)
	}
	v := api.Json{Kind: kind}
	switch kind {
	case api.Number:
		v.Num.Mant = chance.Intn(2001) - 1000
		if v.Num.Mant%10 == 0 {
			v.Num.Mant++
		}
		v.Num.Exp = chance.Intn(19) - 9
	case api.Text:
		v.Text = someTexts[chance.Intn(len(someTexts))] + someTexts[chance.Intn(len(someTexts))]
	case api.Array:
		for range chance.Intn(4) {
			v.Items = append(v.Items, anyValue(chance, high-1))
		}
	case api.Object:
		for _, i := range chance.Perm(len(someTexts))[:chance.Intn(4)] {
			v.Names = append(v.Names, someTexts[i])
			v.Items = append(v.Items, anyValue(chance, high-1))
		}
	}
	return v
}

// copied is v in memory of its own.
func copied(v api.Json) api.Json {
	v.Names = slices.Clone(v.Names)
	v.Items = slices.Clone(v.Items)
	for i := range v.Items {
		v.Items[i] = copied(v.Items[i])
	}
	return v
}

// bent is v with one thing changed somewhere, by chance; it may be right even so.
func bent(chance *rand.Rand, v api.Json) api.Json {
	v = copied(v)
	at := &v
	for len(at.Items) > 0 && chance.Intn(3) > 0 {
		at = &at.Items[chance.Intn(len(at.Items))]
	}
	switch chance.Intn(8) {
	case 0:
		at.Kind = chance.Intn(10)
	case 1:
		at.Num.Mant += chance.Intn(3) - 1
	case 2:
		at.Num.Exp += chance.Intn(3) - 1
	case 3:
		at.Text += []string{"a", "\xff", ""}[chance.Intn(3)]
	case 4:
		at.Names = append(at.Names, []string{"a", "\xff", ""}[chance.Intn(3)])
	case 5:
		at.Items = append(at.Items, []api.Json{null, empty, one}[chance.Intn(3)])
	case 6:
		slices.Reverse(at.Items)
	case 7:
		if len(at.Names) > 0 {
			at.Names[chance.Intn(len(at.Names))] = []string{"a", "b", "\x80"}[chance.Intn(3)]
		}
	}
	return v
}

// J1: Right

func wantRight(t *testing.T, v api.Json, want bool) {
	t.Helper()
	if got := json.Right(v); got != want {
		t.Errorf("Right(%s): %v; want %v", told(v), got, want)
	}
}

func TestRightTable(t *testing.T) {
	for _, v := range rightValues {
		wantRight(t, v, true)
	}
	for _, v := range slices.Concat(wrongValues, foreign()) {
		wantRight(t, v, false)
	}
}

func TestRightWithin(t *testing.T) {
	for count := range 20 {
		for _, v := range rightValues {
			wantRight(t, nested(v, count), height(v)+count <= 16)
			wantRight(t, array(one, nested(v, count)), height(v)+count+1 <= 16)
		}
		for _, v := range slices.Concat(wrongValues, foreign()) {
			wantRight(t, nested(v, count), false)
			wantRight(t, object(names("a", "b"), nested(v, count), one), false)
		}
	}
}

func TestRightDepth(t *testing.T) {
	for _, v := range []api.Json{null, no, yes, one, text("a"), array(), object(nil)} {
		wantRight(t, nested(v, 15), true)
		wantRight(t, nested(v, 16), false)
		wantRight(t, array(nested(v, 14)), true)
		wantRight(t, object(names("a"), nested(v, 15)), false)
	}
	wantRight(t, nested(null, 1<<16-1), false)
}

func TestRightManyNames(t *testing.T) {
	const count = 200_000
	v := api.Json{Kind: api.Object}
	for i := range count {
		v.Names = append(v.Names, strings.Repeat("n", i%7)+string(rune('a'+i%26))+string(rune(0x4E00+i%20_000))+string(rune(0x10000+i)))
		v.Items = append(v.Items, null)
	}
	wantRight(t, v, true)
	v.Names[count-1] = v.Names[0]
	wantRight(t, v, false)
}

func TestRightMany(t *testing.T) {
	chance := rand.New(rand.NewSource(1))
	wrong := 0
	for range 20000 {
		v := anyValue(chance, 1+chance.Intn(6))
		wantRight(t, v, true)
		for range 3 {
			v = bent(chance, v)
			wantRight(t, v, isRight(v))
			if !isRight(v) {
				wrong++
			}
		}
	}
	if wrong < 5000 || wrong > 55000 {
		t.Errorf("%d of 60000 are wrong: too few, or too many", wrong)
	}
}

// J1: Same

func wantSame(t *testing.T, a, b api.Json, want bool) {
	t.Helper()
	if json.Same(a, b) != want || json.Same(b, a) != want {
		t.Errorf("Same(%s, %s): %v, and turned round %v; want %v", told(a), told(b), json.Same(a, b), json.Same(b, a), want)
	}
}

func TestSameTable(t *testing.T) {
	all := slices.Concat(rightValues, wrongValues, foreign())
	for _, a := range all {
		wantSame(t, a, a, true)
		wantSame(t, a, copied(a), true)
		for _, b := range all {
			wantSame(t, a, b, isSame(a, b))
		}
	}
}

func TestSameEmptyLists(t *testing.T) {
	for kind := range 9 {
		bare := api.Json{Kind: kind}
		for _, v := range []api.Json{
			{Kind: kind, Names: []string{}},
			{Kind: kind, Items: []api.Json{}},
			{Kind: kind, Names: make([]string, 0, 5), Items: make([]api.Json, 0, 5)},
		} {
			wantSame(t, bare, v, true)
			wantSame(t, array(one, bare), array(one, v), true)
			wantSame(t, object(names("a"), bare), object(names("a"), v), true)
		}
	}
}

func TestSameOrder(t *testing.T) {
	wantSame(t, object(names("a", "b"), one, one), object(names("b", "a"), one, one), false)
	wantSame(t, object(names("a", "b"), one, null), object(names("b", "a"), null, one), false)
	wantSame(t, object(names("a", "b"), one, null), object(names("a", "b"), null, one), false)
	wantSame(t, array(one, null), array(null, one), false)
	wantSame(t, array(one), array(one, one), false)
	wantSame(t, array(one), array(), false)
	wantSame(t, object(names("a"), one), object(names("a", "b"), one), false)
	wantSame(t, object(names("a"), one), object(nil, one), false)
}

func TestSameEachField(t *testing.T) {
	for kind := range 9 {
		v := api.Json{Kind: kind, Num: api.Decimal{Mant: 3, Exp: 4}, Text: "t", Names: names("n", "m"), Items: []api.Json{one, text("i")}}
		wantSame(t, v, copied(v), true)
		for i, spoil := range []func(*api.Json){
			func(v *api.Json) { v.Kind++ },
			func(v *api.Json) { v.Num.Mant++ },
			func(v *api.Json) { v.Num.Exp++ },
			func(v *api.Json) { v.Text = "" },
			func(v *api.Json) { v.Text = "T" },
			func(v *api.Json) { v.Names = nil },
			func(v *api.Json) { v.Names[1] = "n" },
			func(v *api.Json) { v.Names = v.Names[:1] },
			func(v *api.Json) { v.Items = nil },
			func(v *api.Json) { v.Items[0] = null },
			func(v *api.Json) { v.Items[1].Text = "j" },
			func(v *api.Json) { v.Items = v.Items[:1] },
		} {
			w := copied(v)
			spoil(&w)
			if json.Same(v, w) || json.Same(w, v) || json.Same(nested(v, 40), nested(w, 40)) {
				t.Errorf("the same, in spite of %d: %+v, %+v", i, v, w)
			}
		}
	}
	// Not by their values, which would be the same: by their fields.
	wantSame(t, num(10, 0), num(1, 1), false)
	wantSame(t, num(0, 0), num(0, 1), false)
}

func TestSameDeep(t *testing.T) {
	wantSame(t, nested(one, 1<<16-1), nested(one, 1<<16-1), true)
	wantSame(t, nested(one, 1<<16-1), nested(null, 1<<16-1), false)
	wantSame(t, nested(one, 1<<16-1), nested(one, 1<<16-2), false)
}

func TestSameMany(t *testing.T) {
	chance := rand.New(rand.NewSource(2))
	for range 20000 {
		a := anyValue(chance, 1+chance.Intn(5))
		wantSame(t, a, copied(a), true)
		wantSame(t, a, leveled(a), true)
		b := bent(chance, a)
		wantSame(t, a, b, isSame(a, b))
		c := anyValue(chance, 2)
		wantSame(t, a, c, isSame(a, c))
	}
}

// TestHandedInStays: no call writes into what is handed in, nor behind its length.
func TestHandedInStays(t *testing.T) {
	chance := rand.New(rand.NewSource(3))
	for range 2000 {
		v := roomy(anyValue(chance, 4))
		if chance.Intn(3) == 0 {
			v = roomy(bent(chance, v))
		}
		before := withRoom(v)
		json.Right(v)
		json.Print(v)
		json.Same(v, v)
		json.Same(v, bent(chance, v))
		if !reflect.DeepEqual(withRoom(v), before) {
			t.Fatalf("what was handed in was changed: %+v", v)
		}
	}
}

// roomy is v with room behind each of its lists, in which something stands.
func roomy(v api.Json) api.Json {
	count := len(v.Items)
	v.Items = append(append([]api.Json(nil), v.Items...), text("room"), text("more"))[:count]
	for i := range v.Items {
		v.Items[i] = roomy(v.Items[i])
	}
	count = len(v.Names)
	v.Names = append(append([]string(nil), v.Names...), "room", "more")[:count]
	return v
}

// withRoom is a copy of v in which the room behind its lists is a part of them.
func withRoom(v api.Json) api.Json {
	v.Names = slices.Clone(v.Names[:cap(v.Names)])
	v.Items = slices.Clone(v.Items[:cap(v.Items)])
	for i := range v.Items {
		v.Items[i] = withRoom(v.Items[i])
	}
	return v
}
