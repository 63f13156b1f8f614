package field

import "humpyard/api"

// none is the place that Check tells if an object has all of a schema.
const none = -1

// Check tells which field of a schema an object does not have as it must; below 0: none.
func Check(v api.Json, schema []api.Field) int {
	for i, f := range schema {
		// What is no Object fails at the first field, even one that is Free.
		if v.Kind != api.Object || !has(v, f) {
			return i
		}
	}
	return none
}

// has tells whether an object has a field as it must.
func has(v api.Json, f api.Field) bool {
	fits, there := tell(v, f.Name, func(item api.Json) (bool, bool) { return fit(item, f), true })
	return fits || !there && f.Free
}

// fit tells whether an item is of a field's Kind, and within its bounds.
func fit(item api.Json, f api.Field) bool {
	if f.Kind == api.Bool {
		_, ok := flag(item)
		return ok
	}
	if item.Kind != f.Kind {
		return false
	}
	switch f.Kind {
	case api.Number:
		n, ok := number(item)
		return ok && within(n, f)
	case api.Text:
		return within(len(item.Text), f)
	case api.Array:
		return within(len(item.Items), f)
	}
	return true
}

// within tells whether n is neither below a field's Low nor above its High.
func within(n int, f api.Field) bool { return n >= f.Low && n <= f.High }
