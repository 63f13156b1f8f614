package state

import (
	"humpyard/api"
	"humpyard/field"
	"humpyard/json"
	"humpyard/seal"
)

// Lay is the sealed text of a state that is right.
func Lay(s api.State) (string, api.Errno) {
	if !Right(s) {
		return "", api.ErrArg
	}
	return seal.Seal(json.Print(layState(s))), api.OK
}

// layState is the object that tells a state.
func layState(s api.State) api.Json {
	var names []string
	var items []api.Json
	for _, p := range parts() {
		names = append(names, p.name)
		items = append(items, p.lay(s))
	}
	return field.Make(names, items)
}
