package field_test

import (
	"math"
	"math/rand"
	"reflect"
	"slices"
	"strconv"
	"testing"

	"humpyard/api"
	"humpyard/field"
)

// put is what Make must answer.
func put(all []string, items []api.Json) api.Json {
	v := object(nil)
	for i, name := range all {
		if i < len(items) && !slices.Contains(all[:i], name) {
			v.Names = append(v.Names, name)
			v.Items = append(v.Items, items[i])
		}
	}
	return v
}

func wantMake(t *testing.T, all []string, items []api.Json, want api.Json) {
	t.Helper()
	before, asked := copied(array(items...)), slices.Clone(all)
	if got := field.Make(all, items); !isSame(got, want) {
		t.Errorf("Make(%q, %s): %s; want %s", all, told(items), told(got), told(want))
	}
	if !isSame(array(items...), before) || !slices.Equal(all, asked) {
		t.Errorf("Make wrote into %q, or %s", asked, told(before))
	}
}

// F3

func TestMakeTable(t *testing.T) {
	two := text("2")
	for _, x := range []struct {
		names []string
		items []api.Json
		want  api.Json
	}{
		{nil, nil, object(nil)}, {names(), items(), object(nil)}, {names("a"), nil, object(nil)}, {nil, items(one), object(nil)},
		{names("a"), items(one), object(names("a"), one)}, {names(""), items(null), object(names(""), null)},
		{names("b", "a"), items(one, two), object(names("b", "a"), one, two)}, {names("a", "b"), items(one, two), object(names("a", "b"), one, two)},
		// more of the one than of the other
		{names("a", "b", "c"), items(one), object(names("a"), one)}, {names("a"), items(one, two, yes), object(names("a"), one)}, {names("a", "b"), items(one, two, yes), object(names("a", "b"), one, two)},
		// a name twice: its item goes with it, and those behind stay with theirs
		{names("a", "a"), items(one, two), object(names("a"), one)}, {names("a", "a", "a"), items(two, one, one), object(names("a"), two)},
		{names("a", "b", "a", "c"), items(one, two, yes, no), object(names("a", "b", "c"), one, two, no)},
		{names("a", "b", "b", "a", "c"), items(one, two, yes, no, null), object(names("a", "b", "c"), one, two, null)},
		{names("", "", "a"), items(one, two, yes), object(names("", "a"), one, yes)},
		{names("a", "A", "a ", "\u00e9", "e\u0301"), items(one, two, yes, no, null), object(names("a", "A", "a ", "\u00e9", "e\u0301"), one, two, yes, no, null)},
		// both
		{names("a", "b", "a", "c"), items(one, two, yes), object(names("a", "b"), one, two)},
		{names("a", "a", "b"), items(one, two), object(names("a"), one)},
		{names("a", "a"), items(one, two, yes), object(names("a"), one)},
		// whatever names and items are
		{names("\xff"), items(nothing), object(names("\xff"), nothing)}, {names("a"), items(num(10, 0)), object(names("a"), num(10, 0))},
		{names("a"), items(object(names("b", "b"), one, two)), object(names("a"), object(names("b", "b"), one, two))},
		{names("a"), items(nested(one, 40)), object(names("a"), nested(one, 40))},
	} {
		wantMake(t, x.names, x.items, x.want)
	}
	for _, x := range someItems {
		wantMake(t, names("x"), items(x), object(names("x"), x))
	}
	// What stands behind a list's length is not there.
	wantMake(t, names("a", "b")[:1], items(one, two)[:1], object(names("a"), one))
	wantMake(t, names("a", "b"), items(one, two)[:1], object(names("a"), one))
}

func TestMakeMany(t *testing.T) {
	chance := rand.New(rand.NewSource(3))
	for range 20000 {
		var all []string
		for range chance.Intn(8) {
			all = append(all, someNames[chance.Intn(len(someNames))])
		}
		var some []api.Json
		for range chance.Intn(8) {
			some = append(some, anyItem(chance, 2))
		}
		wantMake(t, all, some, put(all, some))
	}
}

func TestMakeLong(t *testing.T) {
	const count = 200_000
	var all []string
	for i := range count {
		all = append(all, strconv.Itoa(i%(count/2)))
	}
	some := slices.Repeat(items(one), count)
	fill(some[count/2:], null)
	got := field.Make(all, some)
	if len(got.Names) != count/2 || !areSame(got.Items, some[:count/2]) {
		t.Errorf("Make of %d names, each twice: %s", count, told(got))
	}
}

// wantBare: a value is just that one, with nothing that its Kind does not have.
func wantBare(t *testing.T, what string, got, want api.Json) {
	t.Helper()
	if !reflect.DeepEqual(leveled(got), leveled(want)) {
		t.Errorf("%s: %s; want %s", what, told(got), told(want))
	}
}

func TestInt(t *testing.T) {
	for _, x := range []struct {
		n    int
		want api.Json
	}{
		{0, num(0, 0)}, {1, one}, {-1, num(-1, 0)}, {5, num(5, 0)}, {10, num(1, 1)}, {-120, num(-12, 1)}, {1_000_000_000, num(1, 9)}, {-123_000, num(-123, 3)},
		{999_999_999_999_999, num(999_999_999_999_999, 0)}, {1e15, null}, {-1e15, null}, {1e10, null}, {123_456e9, num(123_456, 9)},
		{1_000_000_000_000_001, null}, {-1_000_000_000_000_001, null}, {1_000_000_000_000_010, num(100_000_000_000_001, 1)}, {9_999_999_999_999_990, num(999_999_999_999_999, 1)}, {9_999_999_999_999_991, null},
		{math.MaxInt, null}, {math.MinInt, null}, {1 << 60, null}, {9_223_372_036_000_000_000, num(9_223_372_036, 9)}, {-9_223_372_036_000_000_000, num(-9_223_372_036, 9)}, {9e18, null},
	} {
		wantBare(t, "Int("+strconv.Itoa(x.n)+")", field.Int(x.n), x.want)
		wantBare(t, "Int("+strconv.Itoa(x.n)+")", field.Int(x.n), formed(x.n))
	}
	chance := rand.New(rand.NewSource(4))
	for range 20000 {
		n, power := int(chance.Uint64())>>chance.Intn(64), 1
		for range chance.Intn(12) {
			power *= 10
		}
		n = n / power * power
		wantBare(t, "Int("+strconv.Itoa(n)+")", field.Int(n), formed(n))
	}
}

// formed is what Int must answer: noughts behind are the exponent, of which there may be at most nine.
func formed(n int) api.Json {
	if n == 0 {
		return num(0, 0)
	}
	exp := 0
	for ; n%10 == 0; exp++ {
		n /= 10
	}
	if exp > 9 || n > 1e15 || n < -1e15 {
		return null
	}
	return num(n, exp)
}

func TestStr(t *testing.T) {
	for _, s := range []string{"", "a", "q\"", "é😀\x00", "\xff", "null", "5"} {
		wantBare(t, "Str("+strconv.Quote(s)+")", field.Str(s), text(s))
	}
}

func TestYes(t *testing.T) {
	wantBare(t, "Yes(true)", field.Yes(true), yes)
	wantBare(t, "Yes(false)", field.Yes(false), no)
}

func TestArr(t *testing.T) {
	for _, l := range [][]api.Json{nil, {}, {one}, {null, one, text("a")}, {array(), array(array(one)), object(names("a"), array())}, {nothing, num(10, 0), {Kind: 9}}, someItems, {nested(one, 40)}} {
		wantBare(t, "Arr", field.Arr(l), array(l...))
	}
	wantBare(t, "Arr", field.Arr(items(one, yes)[:1]), array(one))
	deep := nested(one, 1<<15)
	if got := field.Arr(items(deep)); !isSame(got, array(deep)) {
		t.Error("a deep item is not in the array")
	}
}

func TestMadeIsTheOwners(t *testing.T) {
	v := wide()
	wantOwn(t, "Make", v, copied(v), func() api.Json { return field.Make(v.Names, v.Items) })
	v = roomy(array(wide(), array(one, yes), object(names("a", "b"), array(one), null)))
	wantOwn(t, "Arr", v, copied(v), func() api.Json { return field.Arr(v.Items) })
	// Fewer than there are.
	v = roomy(object(names("a", "b", "a", "c"), array(one), array(yes), array(no), array(null), array(one)))
	wantOwn(t, "Make", v, object(names("a", "b", "c"), array(one), array(yes), array(null)), func() api.Json { return field.Make(v.Names, v.Items) })
	// Items that share memory.
	shared := array(one, yes)
	v = object(names("a", "b"), shared, shared)
	wantOwn(t, "Make of shared items", v, copied(v), func() api.Json { return field.Make(v.Names, v.Items) })
	v = array(shared, shared)
	wantOwn(t, "Arr of shared items", v, copied(v), func() api.Json { return field.Arr(v.Items) })
}
