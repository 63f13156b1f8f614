package topic

import (
	"iter"
	"strings"
)

// What a filter's part may be, but a part's own text.
const (
	anyOne = "+"
	anyEnd = "#" // of the last part alone
)

// Match tells whether a topic is one of a filter's.
func Match(filter, name string) bool {
	rest, more := name, true
	for part, last := range parts(filter) {
		if last && part == anyEnd {
			return true
		}
		if !more {
			return false
		}
		var here string
		here, rest, more = strings.Cut(rest, slash)
		if part != anyOne && part != here {
			return false
		}
	}
	return !more
}

// parts are what stands between a text's slashes, each with whether it is the last one.
func parts(s string) iter.Seq2[string, bool] {
	return func(yield func(part string, last bool) bool) {
		for rest, more := s, true; more; {
			var part string
			part, rest, more = strings.Cut(rest, slash)
			if !yield(part, !more) {
				return
			}
		}
	}
}
