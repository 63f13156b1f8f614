package field_test

import (
	"fmt"
	"math/rand"
	"reflect"
	"slices"
	"strconv"
	"testing"

	"humpyard/api"
	"humpyard/field"
)

// Values, as briefly as they can be said.

var (
	null    = api.Json{Kind: api.Null}
	no      = api.Json{Kind: api.False}
	yes     = api.Json{Kind: api.True}
	one     = num(1, 0)
	nothing api.Json
)

func num(mant, exp int) api.Json {
	return api.Json{Kind: api.Number, Num: api.Decimal{Mant: mant, Exp: exp}}
}

func text(s string) api.Json { return api.Json{Kind: api.Text, Text: s} }

func array(items ...api.Json) api.Json { return api.Json{Kind: api.Array, Items: items} }

func names(all ...string) []string { return all }

func items(all ...api.Json) []api.Json { return all }

func object(all []string, items ...api.Json) api.Json {
	return api.Json{Kind: api.Object, Names: all, Items: items}
}

// nested is v within so many arrays and objects by turns.
func nested(v api.Json, count int) api.Json {
	for i := range count {
		if i%2 == 0 {
			v = array(v)
		} else {
			v = object(names("n"), v)
		}
	}
	return v
}

// told is anything, for a test's words.
func told(x any) string {
	s := fmt.Sprintf("%+v", x)
	return s[:min(len(s), 300)]
}

// copied is v in memory of its own.
func copied(v api.Json) api.Json {
	v.Names = slices.Clone(v.Names)
	v.Items = slices.Clone(v.Items)
	for i := range v.Items {
		v.Items[i] = copied(v.Items[i])
	}
	return v
}

// leveled is a value whose lists without elements are all nil.
func leveled(v api.Json) api.Json {
	if len(v.Names) == 0 {
		v.Names = nil
	}
	var items []api.Json
	for _, item := range v.Items {
		items = append(items, leveled(item))
	}
	v.Items = items
	return v
}

func isSame(a, b api.Json) bool { return reflect.DeepEqual(leveled(a), leveled(b)) }

func areSame(a, b []api.Json) bool { return slices.EqualFunc(a, b, isSame) }

// What the chapter says of an object's fields, said anew.

// item is what Get must answer.
func item(v api.Json, name string) (api.Json, bool) {
	if at := slices.Index(v.Names, name); v.Kind == 7 && at >= 0 && at < len(v.Items) {
		return v.Items[at], true
	}
	return api.Json{}, false
}

// whole is a number's value, by its digits: if it is in its form, and a whole number of at most 10^18 to either side.
func whole(d api.Decimal) (int, bool) {
	if d.Mant == 0 {
		return 0, d.Exp == 0
	}
	if d.Mant%10 == 0 || d.Mant < -1e15 || d.Mant > 1e15 || d.Exp < 0 || d.Exp > 9 {
		return 0, false
	}
	n, err := strconv.Atoi(strconv.Itoa(d.Mant) + "000000000"[:d.Exp])
	if err != nil || n < -1e18 || n > 1e18 {
		return 0, false
	}
	return n, true
}

// answer is what Get, Num, Text, Flag and List say of an item.
type answer struct {
	item  api.Json
	there bool
	num   int
	isNum bool
	text  string
	isTxt bool
	flag  bool
	isFlg bool
	list  []api.Json
	isLst bool
}

// answered is what they answer.
func answered(v api.Json, name string) (a answer) {
	a.item, a.there = field.Get(v, name)
	a.num, a.isNum = field.Num(v, name)
	a.text, a.isTxt = field.Text(v, name)
	a.flag, a.isFlg = field.Flag(v, name)
	a.list, a.isLst = field.List(v, name)
	a.item, a.list = leveled(a.item), leveled(array(a.list...)).Items
	return a
}

// asked is what they must answer.
func asked(v api.Json, name string) (a answer) {
	x, there := item(v, name)
	if !there {
		return a
	}
	a.item, a.there = leveled(x), true
	switch x.Kind {
	case 2, 3:
		a.flag, a.isFlg = x.Kind == 3, true
	case 4:
		a.num, a.isNum = whole(x.Num)
	case 5:
		a.text, a.isTxt = x.Text, true
	case 6:
		a.list, a.isLst = leveled(x).Items, true
	}
	return a
}

func wantAnswer(t *testing.T, v api.Json, name string, want answer) {
	t.Helper()
	before := copied(v)
	if got := answered(v, name); !reflect.DeepEqual(got, want) {
		t.Errorf("of %s, %q: %s; want %s", told(v), name, told(got), told(want))
	}
	if !reflect.DeepEqual(v, before) {
		t.Errorf("asking for %q wrote into %s: %s", name, told(before), told(v))
	}
}

// someItems are of each Kind, and of none of them; with what their Kind has, and with what it has not.
var someItems = []api.Json{
	null, no, yes,
	num(0, 0), one, num(-1, 0), num(12, 1), num(-15, 0), num(5, -1), num(-15, -1), num(1, -9), num(1, 9), num(-1, 9), num(999_999_999_999_999, 3), num(999_999_999_999_999, 4), num(-999_999_999_999_999, 3), num(-999_999_999_999_999, 4), num(999_999_999, 9), num(1_000_000_001, 9), num(-1_000_000_001, 9),
	num(10, 0), num(0, 1), num(1, 10), num(1, -10), num(1_000_000_000_000_000, 0), num(1_000_000_000_000_001, 0), num(-1<<63, 0), num(1, 1<<63-1), num(1, -1<<63),
	text(""), text("a"), text("5"), text("true"), text("é\x00\xff"),
	array(), array(null), array(one, text("a"), array(yes, object(names("a"), no))), {Kind: api.Array, Items: []api.Json{}},
	object(nil), object(names("a"), one), object(names("a", "a"), one, array(null)), object(names("a", "b"), one), object(names("a"), one, one),
	nothing, {Kind: api.Bool}, {Kind: 9}, {Kind: -1}, {Kind: 1 << 40},
	{Kind: api.Null, Num: api.Decimal{Mant: 1}, Text: "a", Names: []string{"a"}, Items: []api.Json{one}},
	{Kind: api.True, Num: api.Decimal{Mant: 1}, Text: "a", Names: []string{"a"}, Items: []api.Json{one}},
	{Kind: api.Number, Num: api.Decimal{Mant: 7}, Text: "a", Names: []string{"a"}, Items: []api.Json{one}},
	{Kind: api.Text, Num: api.Decimal{Mant: 1}, Text: "b", Names: []string{"a"}, Items: []api.Json{one}},
	{Kind: api.Array, Num: api.Decimal{Mant: 1}, Text: "a", Names: []string{"a"}, Items: []api.Json{one, null}},
	{Kind: api.Object, Num: api.Decimal{Mant: 1}, Text: "a", Names: []string{"a"}, Items: []api.Json{one}},
	{Num: api.Decimal{Mant: 1}, Text: "a", Names: []string{"a"}, Items: []api.Json{one}},
}

// F1

func TestAnswersTable(t *testing.T) {
	v := object(
		names("null", "no", "yes", "n", "tens", "half", "t", "l", "o", ""),
		null, no, yes, num(-3, 0), num(12, 1), num(5, -1), text("x\""), array(one, yes), object(names("a"), one), text(""))
	for _, x := range []struct {
		name string
		want answer
	}{
		{"null", answer{item: null, there: true}},
		{"no", answer{item: no, there: true, isFlg: true}},
		{"yes", answer{item: yes, there: true, flag: true, isFlg: true}},
		{"n", answer{item: num(-3, 0), there: true, num: -3, isNum: true}},
		{"tens", answer{item: num(12, 1), there: true, num: 120, isNum: true}},
		{"half", answer{item: num(5, -1), there: true}},
		{"t", answer{item: text("x\""), there: true, text: "x\"", isTxt: true}},
		{"l", answer{item: array(one, yes), there: true, list: items(one, yes), isLst: true}},
		{"o", answer{item: object(names("a"), one), there: true}},
		{"", answer{item: text(""), there: true, isTxt: true}},
		{"N", answer{}}, {"nul", answer{}}, {"nulls", answer{}}, {" n", answer{}}, {"n\x00", answer{}}, {"a", answer{}}, {"\xff", answer{}},
	} {
		wantAnswer(t, v, x.name, x.want)
	}
}

// TestAnswersOfItems: what an item is hangs on itself, wherever it stands.
func TestAnswersOfItems(t *testing.T) {
	for _, x := range someItems {
		for _, v := range []api.Json{object(names("x"), x), object(names("a", "x"), one, x), object(names("x", "a"), x, one), object(names("a", "", "x"), text("b"), null, x)} {
			wantAnswer(t, v, "x", asked(v, "x"))
			if got, ok := field.Get(v, "x"); !ok || !isSame(got, x) {
				t.Errorf("Get(%s): %s, %v", told(v), told(got), ok)
			}
		}
	}
}

// TestAnswersOfNoObject: names and items are not looked for in what is no Object.
func TestAnswersOfNoObject(t *testing.T) {
	for _, kind := range []int{api.Null, api.False, api.True, api.Number, api.Text, api.Array, api.Bool, 0, 9, -1, -7, 1 << 40} {
		for _, x := range someItems {
			wantAnswer(t, api.Json{Kind: kind, Names: names("x"), Items: items(x)}, "x", answer{})
		}
		wantAnswer(t, api.Json{Kind: kind, Text: "x"}, "x", answer{})
	}
	wantAnswer(t, array(object(names("x"), one)), "x", answer{})
}

// TestAnswersNotWithin: an item of an item is none of the object's own.
func TestAnswersNotWithin(t *testing.T) {
	v := object(names("a"), object(names("x"), one))
	wantAnswer(t, v, "x", answer{})
	wantAnswer(t, v, "a.x", answer{})
}

func TestAnswersTwice(t *testing.T) {
	for _, first := range someItems {
		for _, second := range []api.Json{null, yes, one, text("b"), array(one)} {
			v := object(names("x", "x"), first, second)
			wantAnswer(t, v, "x", asked(object(names("x"), first), "x"))
			v = object(names("a", "x", "b", "x", "x"), null, first, second, second, null)
			wantAnswer(t, v, "x", asked(object(names("x"), first), "x"))
		}
	}
}

func TestAnswersUnlikeCounts(t *testing.T) {
	many := names("a", "b", "c", "b")
	for count := range 4 {
		v := object(many, items(one, yes, text("c"))[:count]...)
		for i, name := range many[:3] {
			want := answer{}
			if i < count {
				want = asked(object(names("a", "b", "c"), one, yes, text("c")), name)
			}
			wantAnswer(t, v, name, want)
		}
	}
	v := object(names("a"), one, yes, text("c"))
	wantAnswer(t, v, "a", answer{item: one, there: true, num: 1, isNum: true})
	wantAnswer(t, v, "", answer{})
	wantAnswer(t, object(nil, one), "", answer{})
	wantAnswer(t, object(names("")), "", answer{})
	wantAnswer(t, object(nil), "", answer{})
	wantAnswer(t, nothing, "", answer{})
	// Items that stand behind a list's length are not there.
	wantAnswer(t, object(names("a", "b"), items(one, yes)[:1]...), "b", answer{})
	wantAnswer(t, object(names("a", "b")[:1], one, yes), "b", answer{})
}

func TestAnswersDeepAndMany(t *testing.T) {
	deep := nested(one, 1<<15)
	if got, ok := field.Get(object(names("x"), deep), "x"); !ok || !isSame(got, deep) {
		t.Error("a deep item is not told")
	}
	if got, ok := field.List(object(names("x"), array(deep)), "x"); !ok || !areSame(got, items(deep)) {
		t.Error("a deep list is not told")
	}
	v := object(nil)
	for i := range 100_000 {
		v.Names = append(v.Names, strconv.Itoa(i))
		v.Items = append(v.Items, num(1, 9))
	}
	v.Items[99_999] = array(slices.Clone(v.Items)...)
	if got, ok := field.List(v, "99999"); !ok || len(got) != 100_000 {
		t.Error("a long list is not told")
	}
	if n, ok := field.Num(v, "99998"); n != 1e9 || !ok {
		t.Error(n, ok)
	}
}

// someNames are few, so that many of them are there twice.
var someNames = []string{"a", "b", "c", "", "A", "é", "\xff"}

// anyItem is an item, made by chance.
func anyItem(chance *rand.Rand, high int) api.Json {
	if high > 0 && chance.Intn(5) == 0 {
		return anyObject(chance, high-1)
	}
	if high > 0 && chance.Intn(5) == 0 {
		v := array()
		for range chance.Intn(4) {
			v.Items = append(v.Items, anyItem(chance, high-1))
		}
		return v
	}
	if chance.Intn(3) == 0 {
		return num(chance.Intn(41)-20, chance.Intn(5)-2)
	}
	return copied(someItems[chance.Intn(len(someItems))])
}

// anyObject has names and items by chance, mostly as many of the one as of the other.
func anyObject(chance *rand.Rand, high int) api.Json {
	v := object(nil)
	if chance.Intn(10) == 0 {
		v.Kind = chance.Intn(9)
	}
	for range chance.Intn(6) {
		if chance.Intn(12) > 0 {
			v.Names = append(v.Names, someNames[chance.Intn(len(someNames))])
		}
		if chance.Intn(12) > 0 {
			v.Items = append(v.Items, anyItem(chance, high))
		}
	}
	return v
}

func TestAnswersMany(t *testing.T) {
	chance := rand.New(rand.NewSource(1))
	for range 30000 {
		v := anyObject(chance, 3)
		for _, name := range someNames {
			wantAnswer(t, v, name, asked(v, name))
		}
	}
}

// Memory

// spoil writes into all lists of v, and into the room behind them.
func spoil(v *api.Json) {
	for i := range v.Items {
		spoil(&v.Items[i])
	}
	fill(v.Names[:cap(v.Names)], "spoilt")
	fill(v.Items[:cap(v.Items)], text("spoilt"))
}

func fill[T any](list []T, v T) {
	for i := range list {
		list[i] = v
	}
}

// roomy is v, with room behind its lists, in which there is something.
func roomy(v api.Json) api.Json {
	if len(v.Names) > 0 {
		v.Names = append(slices.Clone(v.Names), "behind", "behind")[:len(v.Names)]
	}
	if len(v.Items) > 0 {
		v.Items = append(slices.Clone(v.Items), text("behind"), text("behind"))[:len(v.Items)]
	}
	for i := range v.Items {
		v.Items[i] = roomy(v.Items[i])
	}
	return v
}

// behind tells whether all that stands behind v's lists is as roomy laid it.
func behind(v api.Json) bool {
	for _, name := range v.Names[len(v.Names):cap(v.Names)] {
		if name != "behind" && name != "" {
			return false
		}
	}
	for _, item := range v.Items[len(v.Items):cap(v.Items)] {
		if !isSame(item, text("behind")) && !isSame(item, nothing) {
			return false
		}
	}
	return !slices.ContainsFunc(v.Items, func(item api.Json) bool { return !behind(item) })
}

// wide is a value with lists of several lengths in lists of several lengths.
func wide() api.Json {
	return roomy(object(names("l", "o"),
		array(one, array(yes, no, array(null)), object(names("a", "b"), array(one), text("b"))),
		object(names("x", "y", "z"), array(one, one, one), object(names("w"), null), array())))
}

// wantOwn: whoever writes into what is answered, and into the room behind it, changes neither what was handed in, nor another answer, nor another list of the same one.
func wantOwn(t *testing.T, what string, given, want api.Json, ask func() api.Json) {
	t.Helper()
	before := copied(given)
	first, second := ask(), ask()
	for i := range first.Items {
		left := copied(want)
		left.Items[i] = text("mine")
		got := ask()
		spoil(&got.Items[i])
		got.Items[i] = text("mine")
		if !isSame(got, left) {
			t.Errorf("%s: writing into item %d changed another one: %s", what, i, told(got))
		}
	}
	if !isSame(first, want) {
		t.Errorf("%s: %s; want %s", what, told(first), told(want))
	}
	spoil(&first)
	if !isSame(second, want) {
		t.Errorf("%s: writing into an answer changed another one: %s", what, told(second))
	}
	if !isSame(given, before) || !behind(given) {
		t.Errorf("%s: what was handed in was changed: %s", what, told(given))
	}
	spoil(&given)
	if !isSame(second, want) {
		t.Errorf("%s: what was handed in was kept: %s", what, told(second))
	}
}

func TestAnswersAreTheOwners(t *testing.T) {
	for i, name := range []string{"l", "o"} {
		v := wide()
		wantOwn(t, "Get of "+name, v, copied(v.Items[i]), func() api.Json {
			got, _ := field.Get(v, name)
			return got
		})
	}
	v := wide()
	wantOwn(t, "List", v, copied(v.Items[0]), func() api.Json {
		got, _ := field.List(v, "l")
		return array(got...)
	})
}

// TestAnswersOfSharedItems: items that share memory are told without sharing any.
func TestAnswersOfSharedItems(t *testing.T) {
	shared := []api.Json{one, yes}
	v := object(names("l"), array(array(shared...), array(shared...), object(names("a", "b"), shared...)))
	want := copied(v.Items[0])
	wantOwn(t, "Get of shared items", v, want, func() api.Json {
		got, _ := field.Get(v, "l")
		return got
	})
}
