package json

import (
	"strings"

	"humpyard/api"
	"humpyard/decimal"
	"humpyard/quote"
)

// The words that are values.
const (
	wordNull  = "null"
	wordFalse = "false"
	wordTrue  = "true"
)

// Print is the text of a value that is right; else the empty text.
func Print(v api.Json) string {
	if !Right(v) {
		return ""
	}
	var out strings.Builder
	writeValue(&out, v)
	return out.String()
}

// writeValue writes a value that is right.
func writeValue(out *strings.Builder, v api.Json) {
	switch v.Kind {
	case api.Null:
		out.WriteString(wordNull)
	case api.False:
		out.WriteString(wordFalse)
	case api.True:
		out.WriteString(wordTrue)
	case api.Number:
		out.WriteString(decimal.Print(v.Num))
	case api.Text:
		writeText(out, v.Text)
	case api.Array:
		out.WriteByte('[')
		writeItems(out, v)
		out.WriteByte(']')
	case api.Object:
		out.WriteByte('{')
		writeItems(out, v)
		out.WriteByte('}')
	}
}

// writeItems writes an array's items, or an object's with their names.
func writeItems(out *strings.Builder, v api.Json) {
	for i, item := range v.Items {
		if i > 0 {
			out.WriteByte(',')
		}
		if v.Kind == api.Object {
			writeText(out, v.Names[i])
			out.WriteByte(':')
		}
		writeValue(out, item)
	}
}

// writeText writes a text that is Whole, and so has a Quote.
func writeText(out *strings.Builder, s string) {
	quoted, _ := quote.Quote(s)
	out.WriteString(quoted)
}
