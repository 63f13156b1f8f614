package json

import (
	"humpyard/api"
	"humpyard/lexer"
)

// Parse is the value of a text; else an error, and where it is.
func Parse(s string) (api.Json, api.Errno, int) {
	tokens, errno, at := lexer.Scan(s)
	if errno != api.OK {
		return api.Json{}, errno, at
	}
	r := reader{tokens: tokens}
	v, errno := r.value(top)
	if errno == api.OK && r.here().Kind != api.TokEnd {
		errno = api.ErrJson
	}
	if errno != api.OK {
		return api.Json{}, errno, r.here().At
	}
	return v, api.OK, 0
}

// reader goes through a text's tokens. It goes on only from a token that fits, and never from the end: when an error is told, it stands at the token at which that is so.
type reader struct {
	tokens []api.Token
	next   int
}

// here is the token at which r stands.
func (r *reader) here() api.Token { return r.tokens[r.next] }

// take goes on from a sign, if r stands at it. A text that reads like it is none.
func (r *reader) take(sign string) bool {
	t := r.here()
	if t.Kind != api.TokSign || t.Text != sign {
		return false
	}
	r.next++
	return true
}

// value reads the value that begins here, at a depth.
func (r *reader) value(depth int) (api.Json, api.Errno) {
	v := begun(r.here())
	if v.Kind == 0 {
		return api.Json{}, api.ErrJson
	}
	if depth > api.MaxDeep {
		return api.Json{}, api.ErrDeep
	}
	r.next++
	switch v.Kind {
	case api.Array:
		return r.array(depth)
	case api.Object:
		return r.object(depth)
	}
	return v, api.OK
}

// begun is the value that a token begins, as far as the token tells it; its Kind is 0, if it begins none.
func begun(t api.Token) api.Json {
	switch t.Kind {
	case api.TokText:
		return api.Json{Kind: api.Text, Text: t.Text}
	case api.TokNum:
		return api.Json{Kind: api.Number, Num: t.Num}
	case api.TokWord, api.TokSign:
		return api.Json{Kind: kindOf(t.Text)}
	}
	return api.Json{}
}

// kindOf is the Kind of the value that a word is, or a sign begins; 0, if there is none.
func kindOf(text string) int {
	switch text {
	case wordNull:
		return api.Null
	case wordFalse:
		return api.False
	case wordTrue:
		return api.True
	case "[":
		return api.Array
	case "{":
		return api.Object
	}
	return 0
}

// array reads an array, at a depth, from behind the sign that begins it.
func (r *reader) array(depth int) (api.Json, api.Errno) {
	v := api.Json{Kind: api.Array}
	errno := r.until("]", func() api.Errno {
		item, errno := r.value(depth + 1)
		v.Items = append(v.Items, item)
		return errno
	})
	return v, errno
}

// object reads an object, at a depth, from behind the sign that begins it.
func (r *reader) object(depth int) (api.Json, api.Errno) {
	v := api.Json{Kind: api.Object}
	seen := nameSet{}
	errno := r.until("}", func() api.Errno {
		name, errno := r.name(seen)
		if errno != api.OK {
			return errno
		}
		item, errno := r.value(depth + 1)
		v.Names = append(v.Names, name)
		v.Items = append(v.Items, item)
		return errno
	})
	return v, errno
}

// name reads a name that its object does not have already, and the sign behind it.
func (r *reader) name(seen nameSet) (string, api.Errno) {
	t := r.here()
	if t.Kind != api.TokText {
		return "", api.ErrJson
	}
	if !seen.add(t.Text) {
		return "", api.ErrTwice
	}
	r.next++
	if !r.take(":") {
		return "", api.ErrJson
	}
	return t.Text, api.OK
}

// until reads what stands ahead of a closing sign, with commas between, by a call of one for each; there may be none.
func (r *reader) until(closing string, one func() api.Errno) api.Errno {
	if r.take(closing) {
		return api.OK
	}
	for {
		if errno := one(); errno != api.OK {
			return errno
		}
		if r.take(closing) {
			return api.OK
		}
		if !r.take(",") {
			return api.ErrJson
		}
	}
}
