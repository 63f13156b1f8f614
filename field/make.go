package field

import (
	"humpyard/api"
	"humpyard/decimal"
)

// Make puts an object together, of as many names and items as there are of both; of a name that is there twice it takes the first one.
func Make(names []string, items []api.Json) api.Json {
	object := api.Json{Kind: api.Object}
	// There may be too many names to go through all of them for each.
	seen := map[string]struct{}{}
	for i := range min(len(names), len(items)) {
		if _, there := seen[names[i]]; there {
			continue
		}
		seen[names[i]] = struct{}{}
		object.Names = append(object.Names, names[i])
		object.Items = append(object.Items, copied(items[i]))
	}
	return object
}

// Int is the Number n, if it has a form; else Null.
func Int(n int) api.Json {
	d, ok := decimal.Make(n, 0)
	if !ok {
		return api.Json{Kind: api.Null}
	}
	return api.Json{Kind: api.Number, Num: d}
}

// Str is the Text s.
func Str(s string) api.Json { return api.Json{Kind: api.Text, Text: s} }

// Yes is True or False.
func Yes(b bool) api.Json {
	if b {
		return api.Json{Kind: api.True}
	}
	return api.Json{Kind: api.False}
}

// Arr is the Array of l.
func Arr(l []api.Json) api.Json { return api.Json{Kind: api.Array, Items: copiedAll(l)} }
