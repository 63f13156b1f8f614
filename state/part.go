package state

import (
	"humpyard/api"
	"humpyard/field"
)

// part is a field of a state's text: its name, how it is laid, and how it is taken into a state; take tells whether it was there, of its kind.
type part struct {
	name string
	lay  func(s api.State) api.Json
	take func(s *api.State, from api.Json) bool
}

// parts are all of them, in the order in which they are laid.
func parts() []part {
	return []part{
		numPart("headerId", func(s *api.State) *int { return &s.Header }),
		numPart("boot", func(s *api.State) *int { return &s.Boot }),
		textPart("serialNumber", func(s *api.State) *string { return &s.Vehicle }),
		numPart("orderId", func(s *api.State) *int { return &s.Order }),
		numPart("orderUpdateId", func(s *api.State) *int { return &s.Update }),
		flagPart("live", func(s *api.State) *bool { return &s.Live }),
		numPart("lastNodeId", func(s *api.State) *int { return &s.Node }),
		numPart("lastNodeSequenceId", func(s *api.State) *int { return &s.Seq }),
		flagPart("driving", func(s *api.State) *bool { return &s.Driving }),
		numPart("accepted", func(s *api.State) *int { return &s.Accepted }),
	}
}

func numPart(name string, at func(s *api.State) *int) part {
	return newPart(name, at, field.Int, field.Num)
}

func textPart(name string, at func(s *api.State) *string) part {
	return newPart(name, at, field.Str, field.Text)
}

func flagPart(name string, at func(s *api.State) *bool) part {
	return newPart(name, at, field.Yes, field.Flag)
}

// newPart is the part of a name. It is laid from, and taken to, one place in a state: the two can not come apart.
func newPart[T any](name string, at func(s *api.State) *T, lay func(value T) api.Json, ask func(v api.Json, name string) (T, bool)) part {
	return part{
		name: name,
		lay:  func(s api.State) api.Json { return lay(*at(&s)) },
		take: func(s *api.State, from api.Json) bool {
			value, ok := ask(from, name)
			*at(s) = value
			return ok
		},
	}
}
