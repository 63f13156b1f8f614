package state

import (
	"humpyard/api"
	"humpyard/json"
	"humpyard/seal"
)

// Take is the state that a sealed text tells.
func Take(s string) (api.State, api.Errno) {
	text, errno := seal.Open(s)
	if errno != api.OK {
		return api.State{}, errno
	}
	v, errno, _ := json.Parse(text)
	if errno != api.OK {
		return api.State{}, errno
	}
	told, ok := takeState(v)
	if !ok || !Right(told) {
		return api.State{}, api.ErrState
	}
	return told, api.OK
}

// takeState is the state that a value tells, if it has all parts.
func takeState(v api.Json) (api.State, bool) {
	var s api.State
	for _, p := range parts() {
		if !p.take(&s, v) {
			return api.State{}, false
		}
	}
	return s, true
}
