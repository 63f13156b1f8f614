package field_test

import (
	"math"
	"math/rand"
	"slices"
	"strconv"
	"strings"
	"testing"

	"humpyard/api"
	"humpyard/field"
)

// A schema, as briefly as it can be said.

func need(name string, kind, low, high int) api.Field {
	return api.Field{Name: name, Kind: kind, Low: low, High: high}
}

func free(f api.Field) api.Field {
	f.Free = true
	return f
}

func fields(all ...api.Field) []api.Field { return all }

// isFit tells whether v has f as it must, said anew.
func isFit(v api.Json, f api.Field) bool {
	x, there := item(v, f.Name)
	if !there {
		return f.Free
	}
	if f.Kind == 8 {
		return x.Kind == 2 || x.Kind == 3
	}
	size, sized := map[int]int{5: len(x.Text), 6: len(x.Items)}[x.Kind]
	if x.Kind == 4 {
		if size, sized = whole(x.Num); !sized {
			return false
		}
	}
	return x.Kind == f.Kind && (!sized || f.Low <= size && size <= f.High)
}

// faulty is what Check must answer.
func faulty(v api.Json, schema []api.Field) int {
	if v.Kind != 7 && len(schema) > 0 {
		return 0
	}
	return slices.IndexFunc(schema, func(f api.Field) bool { return !isFit(v, f) })
}

func wantCheck(t *testing.T, v api.Json, schema []api.Field, want int) {
	t.Helper()
	before, asked := copied(v), slices.Clone(schema)
	if got := field.Check(v, schema); got != want {
		t.Errorf("Check(%s, %s): %d; want %d", told(v), told(schema), got, want)
	}
	if !isSame(v, before) || !slices.Equal(schema, asked) {
		t.Errorf("Check wrote into %s, or %s", told(before), told(asked))
	}
}

// F2

func TestCheckExample(t *testing.T) {
	v := object(names("a"), num(5, 0))
	wantCheck(t, v, fields(need("a", api.Number, 1, 9)), -1)
	wantCheck(t, v, fields(need("a", api.Number, 6, 9)), 0)
}

func TestCheckSeveral(t *testing.T) {
	v := object(names("n", "t", "f", "l", "o", "z"), num(5, 0), text("abc"), no, array(one, yes), object(nil), null)
	all := fields(
		need("n", api.Number, 5, 5), need("t", api.Text, 3, 3), need("f", api.Bool, 0, 0), need("l", api.Array, 2, 2), need("o", api.Object, 0, 0), need("z", api.Null, 0, 0), need("f", api.False, 0, 0))
	wantCheck(t, v, all, -1)
	// The first one that is not as it must be is told, whatever the others are.
	for i := range all {
		for _, wrong := range []api.Field{need("x", api.Null, 0, 0), need(all[i].Name, api.True, 0, 0), free(need(all[i].Name, 0, 0, 0))} {
			schema := slices.Clone(all)
			schema[i] = wrong
			wantCheck(t, v, schema, i)
			schema[len(schema)-1] = need("x", api.Null, 0, 0)
			wantCheck(t, v, schema, i)
			wantCheck(t, v, append(fields(wrong), all...), 0)
			wantCheck(t, v, append(slices.Clone(all), wrong), len(all))
		}
	}
	// Fields that may be missing.
	missing := free(need("x", api.Text, 1, 2))
	wantCheck(t, v, fields(missing), -1)
	wantCheck(t, v, slices.Concat(fields(missing), all, fields(missing)), -1)
	wantCheck(t, v, slices.Concat(fields(missing), all, fields(need("y", api.Text, 1, 2))), len(all)+1)
	wantCheck(t, object(nil), fields(missing, missing, missing), -1)
	wantCheck(t, object(nil), fields(missing, need("x", api.Text, 1, 2), missing), 1)
	// One field twice, each with its own bounds.
	wantCheck(t, v, fields(need("n", api.Number, 0, 9), need("n", api.Number, 6, 9)), 1)
	wantCheck(t, v, fields(need("n", api.Number, 0, 9), need("n", api.Number, 0, 5)), -1)
}

// TestCheckFree: a field that is there must be as it must, Free or not.
func TestCheckFree(t *testing.T) {
	v := object(names("n", "t", "h", "l"), num(5, 0), text("abc"), num(5, -1), array(one))
	for _, f := range fields(
		need("n", api.Number, 6, 9), need("n", api.Number, 0, 4), need("n", api.Text, 0, 9), need("n", api.Bool, 0, 9), need("t", api.Text, 4, 9), need("t", api.Text, 0, 2), need("t", api.Number, 0, 9), need("h", api.Number, 0, 9), need("l", api.Array, 2, 9), need("l", api.Array, 0, 0), need("l", api.Object, 0, 9)) {
		wantCheck(t, v, fields(f), 0)
		wantCheck(t, v, fields(free(f)), 0)
	}
	for _, f := range fields(need("n", api.Number, 5, 9), need("t", api.Text, 0, 3), need("l", api.Array, 1, 1)) {
		wantCheck(t, v, fields(f), -1)
		wantCheck(t, v, fields(free(f)), -1)
	}
}

func TestCheckNoObject(t *testing.T) {
	for _, kind := range []int{api.Null, api.False, api.True, api.Number, api.Text, api.Array, api.Bool, 0, 9, -1, 1 << 40} {
		v := api.Json{Kind: kind, Names: names("a"), Items: items(one)}
		wantCheck(t, v, nil, -1)
		wantCheck(t, v, fields(), -1)
		wantCheck(t, v, fields(need("a", api.Number, 1, 1)), 0)
		wantCheck(t, v, fields(free(need("a", api.Number, 1, 1))), 0)
		wantCheck(t, v, fields(free(need("x", api.Number, 1, 1))), 0)
		wantCheck(t, v, fields(free(need("x", api.Null, 0, 0)), need("y", api.Null, 0, 0)), 0)
		wantCheck(t, api.Json{Kind: kind}, fields(free(api.Field{})), 0)
	}
	wantCheck(t, object(nil), nil, -1)
	wantCheck(t, object(nil), fields(), -1)
	wantCheck(t, object(names("a", "a"), one), nil, -1)
}

// sized is an item of a Kind, of that number, or of so many bytes or items.
func sized(kind, size int) api.Json {
	switch kind {
	case api.Number:
		return field.Int(size)
	case api.Text:
		return text(strings.Repeat("a", size))
	}
	return array(slices.Repeat(items(null), size)...)
}

func TestCheckBounds(t *testing.T) {
	for _, kind := range []int{api.Number, api.Text, api.Array} {
		for low := range 8 {
			for high := range 8 {
				for size := range 10 {
					want := 0
					if low <= size && size <= high {
						want = -1
					}
					v := object(names("x"), sized(kind, size))
					wantCheck(t, v, fields(need("x", kind, low, high)), want)
					wantCheck(t, v, fields(free(need("x", kind, low, high))), want)
				}
			}
		}
		for _, size := range []int{0, 1, 3} {
			v := object(names("x"), sized(kind, size))
			wantCheck(t, v, fields(need("x", kind, -1, 3)), -1)
			wantCheck(t, v, fields(need("x", kind, math.MinInt, math.MaxInt)), -1)
			wantCheck(t, v, fields(need("x", kind, math.MaxInt, math.MinInt)), 0)
			wantCheck(t, v, fields(need("x", kind, math.MinInt, -1)), 0)
			wantCheck(t, v, fields(need("x", kind, 4, math.MaxInt)), 0)
		}
	}
}

func TestCheckNumbers(t *testing.T) {
	for _, n := range []int{0, 1, -1, 5, -5, 10, 120, -1000, 1e9, 999_999_999_999_999, -999_999_999_999_999, 1e15 + 10, 999_999_999_999_999_000, -999_999_999_999_999_000, 999_999_999e9} {
		v := object(names("x"), field.Int(n))
		for _, x := range []struct{ low, high, want int }{
			{n, n, -1}, {n - 1, n + 1, -1}, {n + 1, n + 9, 0}, {n - 9, n - 1, 0}, {n + 1, n - 1, 0}, {n, n - 1, 0}, {n + 1, n, 0}, {math.MinInt, n, -1}, {n, math.MaxInt, -1}, {math.MinInt, math.MaxInt, -1},
		} {
			wantCheck(t, v, fields(need("x", api.Number, x.low, x.high)), x.want)
		}
	}
	// No whole ones, whatever the bounds; nor such as have no form, or are too great.
	for _, x := range []api.Json{num(5, -1), num(-15, -1), num(1, -9), num(10, 0), num(0, 1), num(1, 10), num(1_000_000_000_000_000, 0), num(999_999_999_999_999, 4), num(1_000_000_001, 9), num(-1_000_000_001, 9), num(math.MinInt, 0)} {
		wantCheck(t, object(names("x"), x), fields(need("x", api.Number, math.MinInt, math.MaxInt)), 0)
		wantCheck(t, object(names("x"), x), fields(free(need("x", api.Number, math.MinInt, math.MaxInt))), 0)
	}
}

// TestCheckBytes: a text's bytes are counted, not its characters.
func TestCheckBytes(t *testing.T) {
	v := object(names("x"), text("é😀"))
	for high := range 9 {
		want := -1
		if high < 6 {
			want = 0
		}
		wantCheck(t, v, fields(need("x", api.Text, 0, high)), want)
	}
	wantCheck(t, v, fields(need("x", api.Text, 6, 6)), -1)
	wantCheck(t, v, fields(need("x", api.Text, 7, 9)), 0)
	wantCheck(t, object(names("x"), text("\xff\xff")), fields(need("x", api.Text, 2, 2)), -1)
}

// TestCheckUnbound: of other Kinds than Number, Text and Array bounds count for nothing.
func TestCheckUnbound(t *testing.T) {
	all := []struct {
		kind int
		item api.Json
	}{
		{api.Null, null}, {api.False, no}, {api.True, yes}, {api.Bool, no}, {api.Bool, yes}, {api.Object, object(nil)}, {api.Object, object(names("a", "b", "c"), one, one, one)},
		{api.Object, api.Json{Kind: api.Object, Num: api.Decimal{Mant: 5, Exp: -1}, Text: "abcdef"}},
		{api.Null, api.Json{Kind: api.Null, Num: api.Decimal{Mant: 10}, Text: "abcdef", Items: items(one, one)}},
		{0, nothing}, {9, api.Json{Kind: 9}}, {-1, api.Json{Kind: -1}},
	}
	for _, x := range all {
		for _, bounds := range [][2]int{{0, 0}, {1, 1}, {0, 2}, {1, 0}, {100, 200}, {-5, -1}, {math.MaxInt, math.MinInt}} {
			v := object(names("x"), x.item)
			wantCheck(t, v, fields(need("x", x.kind, bounds[0], bounds[1])), -1)
			wantCheck(t, v, fields(free(need("x", x.kind, bounds[0], bounds[1]))), -1)
		}
	}
}

// TestCheckKinds: each Kind is the very one, but for Bool.
func TestCheckKinds(t *testing.T) {
	for _, x := range someItems {
		v := object(names("x"), x)
		for kind := -2; kind <= 10; kind++ {
			f := need("x", kind, math.MinInt, math.MaxInt)
			wantCheck(t, v, fields(f), faulty(v, fields(f)))
			if x.Kind != kind && kind != api.Bool {
				wantCheck(t, v, fields(f), 0)
				wantCheck(t, v, fields(free(f)), 0)
			}
		}
	}
	both := need("x", api.Bool, 0, 0)
	wantCheck(t, object(names("x"), yes), fields(both), -1)
	wantCheck(t, object(names("x"), no), fields(both), -1)
	wantCheck(t, object(names("x"), yes), fields(need("x", api.False, 0, 0)), 0)
	wantCheck(t, object(names("x"), no), fields(need("x", api.True, 0, 0)), 0)
	for _, x := range []api.Json{null, one, num(0, 0), text("true"), array(), object(nil), nothing, {Kind: api.Bool}} {
		wantCheck(t, object(names("x"), x), fields(both), 0)
		wantCheck(t, object(names("x"), x), fields(free(both)), 0)
	}
}

// TestCheckTwice: of a name that is there twice the first one counts.
func TestCheckTwice(t *testing.T) {
	v := object(names("x", "x"), num(5, 0), text("a"))
	wantCheck(t, v, fields(need("x", api.Number, 5, 5)), -1)
	wantCheck(t, v, fields(need("x", api.Text, 1, 1)), 0)
	wantCheck(t, object(names("x", "x"), num(5, -1), num(5, 0)), fields(need("x", api.Number, 0, 9)), 0)
	wantCheck(t, object(names("x", "x"), num(50, 0), num(5, 0)), fields(free(need("x", api.Number, 0, 9))), 0)
}

func TestCheckUnlikeCounts(t *testing.T) {
	a, b := need("a", api.Number, 1, 1), need("b", api.Number, 1, 1)
	wantCheck(t, object(names("a", "b"), one), fields(a, b), 1)
	wantCheck(t, object(names("a", "b"), one), fields(a, free(b)), -1)
	wantCheck(t, object(names("a", "b")), fields(a, b), 0)
	wantCheck(t, object(names("a"), one, one), fields(a, b), 1)
	wantCheck(t, object(names("a"), one, one), fields(a, free(b)), -1)
	wantCheck(t, object(nil, one), fields(need("", api.Number, 1, 1)), 0)
}

func TestCheckMany(t *testing.T) {
	chance := rand.New(rand.NewSource(2))
	places := map[int]int{}
	for range 60000 {
		v := anyObject(chance, 2)
		var schema []api.Field
		for range chance.Intn(5) {
			schema = append(schema, anyField(chance, v))
		}
		want := faulty(v, schema)
		wantCheck(t, v, schema, want)
		places[want]++
	}
	for _, place := range []int{-1, 0, 1, 2, 3} {
		if places[place] < 100 {
			t.Errorf("only %d schemas with the place %d", places[place], place)
		}
	}
}

// anyField is one of a schema, by chance, mostly near to what v has.
func anyField(chance *rand.Rand, v api.Json) api.Field {
	f := api.Field{Name: someNames[chance.Intn(len(someNames))], Kind: chance.Intn(10), Free: chance.Intn(2) == 0}
	f.Low = chance.Intn(9) - 4
	f.High = f.Low + chance.Intn(9) - 2
	if x, there := item(v, f.Name); there && chance.Intn(6) > 0 {
		f.Kind = x.Kind
		if (x.Kind == 2 || x.Kind == 3) && chance.Intn(2) == 0 {
			f.Kind = api.Bool
		}
		if n, ok := whole(x.Num); ok && chance.Intn(3) > 0 {
			f.Low, f.High = n-chance.Intn(3), n+chance.Intn(3)
		}
	}
	return f
}

func TestCheckLong(t *testing.T) {
	v := object(nil)
	var schema []api.Field
	for i := range 2000 {
		v.Names = append(v.Names, strconv.Itoa(i))
		v.Items = append(v.Items, field.Int(i))
		schema = append(schema, need(strconv.Itoa(i), api.Number, i, i))
	}
	wantCheck(t, v, schema, -1)
	schema[1999].Low++
	wantCheck(t, v, schema, 1999)
}
