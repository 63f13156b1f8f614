package quote

import "strings"

// Surrogates are the halves by whose numbers a character above U+FFFF is told.
const (
	firstHalf  = 0xD800 // the first halves begin here
	secondHalf = 0xDC00 // the second ones begin here, where the first ones end
	halvesEnd  = 0xE000
	aboveUnits = 0x10000 // the character that the least two halves are
)

const (
	unitBytes = 6 // of a backslash, u, and four digits
	pairBytes = 2 * unitBytes
)

// Unquote is the text of the JSON string with which s begins, and how many bytes of s that has, if there is one.
func Unquote(s string) (string, int, bool) {
	if !strings.HasPrefix(s, `"`) {
		return "", 0, false
	}
	var text strings.Builder
	next := 1 // bytes ahead of it are taken already, by the quote or a backslash
	for i, r := range s {
		if i < next {
			continue
		}
		switch {
		case r == '"':
			return text.String(), i + 1, true
		case r == '\\':
			told, size := escape(s[i:])
			if size == 0 {
				return "", 0, false
			}
			text.WriteRune(told)
			next = i + size
		case r < firstPlain || broken(r, s[i:]):
			return "", 0, false
		default:
			text.WriteRune(r)
		}
	}
	return "", 0, false
}

// escape is the character that the backslash with which s begins tells, and how many bytes tell it: 0, if it tells none.
func escape(s string) (rune, int) {
	if len(s) < 2 {
		return 0, 0
	}
	mark := s[1]
	switch mark {
	case '"', '\\', '/':
		return rune(mark), 2
	case 'u':
		return numbered(s)
	}
	if i := strings.IndexByte(letters, mark); i >= 0 {
		return rune(controls[i]), 2
	}
	return 0, 0
}

// numbered is escape of a character that is told by its number, or by those of its two halves.
func numbered(s string) (rune, int) {
	first, ok := unit(s)
	if !ok || isSecond(first) {
		return 0, 0
	}
	if !isFirst(first) {
		return first, unitBytes
	}
	second, ok := unit(s[unitBytes:])
	if !ok || !isSecond(second) {
		return 0, 0
	}
	return aboveUnits + (first-firstHalf)*(halvesEnd-secondHalf) + (second - secondHalf), pairBytes
}

func isFirst(n rune) bool { return firstHalf <= n && n < secondHalf }

func isSecond(n rune) bool { return secondHalf <= n && n < halvesEnd }

// unit is the number in the backslash, u, and four digits in sixteens with which s begins, if it does.
func unit(s string) (rune, bool) {
	if len(s) < unitBytes || !strings.HasPrefix(s, `\u`) {
		return 0, false
	}
	var n rune
	for i := 2; i < unitBytes; i++ {
		d, ok := digit(s[i])
		if !ok {
			return 0, false
		}
		n = n*16 + d
	}
	return n, true
}

// digit is the worth of a digit in sixteens, of either case.
func digit(c byte) (rune, bool) {
	switch {
	case '0' <= c && c <= '9':
		return rune(c - '0'), true
	case 'a' <= c && c <= 'f':
		return rune(c-'a') + 10, true
	case 'A' <= c && c <= 'F':
		return rune(c-'A') + 10, true
	}
	return 0, false
}
