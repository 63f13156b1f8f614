package field_test

import (
	"math"
	"math/rand"
	"reflect"
	"slices"
	"testing"

	"humpyard/api"
	"humpyard/field"
	"humpyard/json"
)

// F4

// TestMakeThenGet: what Make put together, Get tells.
func TestMakeThenGet(t *testing.T) {
	chance := rand.New(rand.NewSource(5))
	for range 20000 {
		var all []string
		var some []api.Json
		for range chance.Intn(7) {
			all = append(all, someNames[chance.Intn(len(someNames))])
			some = append(some, anyItem(chance, 2))
		}
		v := field.Make(all, some)
		for _, name := range someNames {
			at := slices.Index(all, name)
			got, there := field.Get(v, name)
			if there != (at >= 0) || there && !isSame(got, some[at]) || !there && !isSame(got, nothing) {
				t.Errorf("Make(%q, %s) has %q as %s, %v", all, told(some), name, told(got), there)
			}
		}
	}
}

// TestMadeValues: what Int, Str, Yes and Arr put into an object, Num, Text, Flag and List tell.
func TestMadeValues(t *testing.T) {
	chance := rand.New(rand.NewSource(6))
	for range 20000 {
		n, s, b := chance.Intn(2e9)-1e9, someNames[chance.Intn(len(someNames))], chance.Intn(2) == 0
		l := slices.Repeat(items(field.Int(n), field.Str(s)), chance.Intn(3))
		v := field.Make(names("n", "s", "b", "l"), items(field.Int(n), field.Str(s), field.Yes(b), field.Arr(l)))
		if got, ok := field.Num(v, "n"); got != n || !ok {
			t.Error(n, got, ok)
		}
		if got, ok := field.Text(v, "s"); got != s || !ok {
			t.Error(s, got, ok)
		}
		if got, ok := field.Flag(v, "b"); got != b || !ok {
			t.Error(b, got, ok)
		}
		if got, ok := field.List(v, "l"); !areSame(got, l) || !ok {
			t.Error(l, got, ok)
		}
		if text := json.Print(v); s != "\xff" && text == "" {
			t.Errorf("%s has no text", told(v))
		}
	}
}

// isTold tells whether that one of Num, Text, Flag and List that goes with a field's Kind tells its item within its bounds.
func isTold(v api.Json, f api.Field) bool {
	size, ok := f.Low, true
	switch f.Kind {
	case api.Number:
		size, ok = field.Num(v, f.Name)
	case api.Text:
		var s string
		s, ok = field.Text(v, f.Name)
		size = len(s)
	case api.Array:
		var l []api.Json
		l, ok = field.List(v, f.Name)
		size = len(l)
	case api.Bool, api.True, api.False:
		_, ok = field.Flag(v, f.Name)
		return ok
	default:
		_, ok = field.Get(v, f.Name)
		return ok
	}
	return ok && f.Low <= size && size <= f.High
}

// TestCheckedIsTold: what Check takes, Num, Text, Flag and List tell.
func TestCheckedIsTold(t *testing.T) {
	chance := rand.New(rand.NewSource(7))
	taken := map[int]int{}
	for range 100000 {
		v := anyObject(chance, 2)
		f := anyField(chance, v)
		if chance.Intn(2) == 0 {
			f.Low, f.High = math.MinInt, math.MaxInt
		}
		_, there := field.Get(v, f.Name)
		if field.Check(v, fields(f)) != -1 || !there {
			continue
		}
		taken[f.Kind]++
		if !isTold(v, f) {
			t.Errorf("%s is taken with %s, but not told", told(v), told(f))
		}
	}
	for kind := api.Null; kind <= api.Bool; kind++ {
		if taken[kind] < 100 {
			t.Errorf("only %d of Kind %d were taken", taken[kind], kind)
		}
	}
}

// TestOtherFields: more fields, or others in another order, change nothing.
func TestOtherFields(t *testing.T) {
	chance := rand.New(rand.NewSource(8))
	for range 20000 {
		var some []api.Json
		count := chance.Intn(4)
		for range count {
			some = append(some, anyItem(chance, 2))
		}
		v := field.Make(someNames[:count], some)
		var schema []api.Field
		for range chance.Intn(4) {
			f := anyField(chance, v)
			f.Name = someNames[chance.Intn(3)]
			schema = append(schema, f)
		}
		want := field.Check(v, schema)
		others := object(append(slices.Clone(v.Names), "x", "y", "z"), append(slices.Clone(v.Items), anyItem(chance, 2), one, null)...)
		mixed := object(nil)
		for _, i := range chance.Perm(len(others.Names)) {
			mixed.Names = append(mixed.Names, others.Names[i])
			mixed.Items = append(mixed.Items, others.Items[i])
		}
		for _, other := range []api.Json{others, mixed} {
			wantCheck(t, other, schema, want)
			for _, name := range someNames {
				if got, was := answered(other, name), answered(v, name); !reflect.DeepEqual(got, was) {
					t.Errorf("of %s, %q: %s; of %s: %s", told(v), name, told(was), told(other), told(got))
				}
			}
		}
	}
}
