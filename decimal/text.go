package decimal

import (
	"strconv"
	"strings"

	"humpyard/api"
)

const (
	maxText   = 400  // bytes of a number's text
	maxDigits = 18   // that surely fit an int; a form has fewer
	farPower  = 1000 // no digits of maxText bytes bring such a power back to a form
)

// numeral is a number's text in its parts: digits ahead of the point and behind it, and the power of ten.
type numeral struct {
	negative        bool
	whole, fraction string
	power           int
}

// Parse is the form of the number that s tells as JSON has it, if it tells one, and that has a form.
func Parse(s string) (api.Decimal, bool) {
	if len(s) > maxText {
		return api.Decimal{}, false
	}
	n, ok := split(s)
	if !ok {
		return api.Decimal{}, false
	}
	return n.form()
}

// split takes a number's text apart.
func split(s string) (numeral, bool) {
	var n numeral
	s, n.negative = strings.CutPrefix(s, "-")
	n.whole, s = cutDigits(s)
	if n.whole == "" || len(n.whole) > 1 && n.whole[0] == '0' {
		return numeral{}, false
	}
	s, pointed := strings.CutPrefix(s, ".")
	if pointed {
		n.fraction, s = cutDigits(s)
		if n.fraction == "" {
			return numeral{}, false
		}
	}
	if s == "" {
		return n, true
	}
	power, ok := readPower(s)
	if !ok {
		return numeral{}, false
	}
	n.power = power
	return n, true
}

// cutDigits is the digits that s begins with, and what is behind them.
func cutDigits(s string) (string, string) {
	i := 0
	for i < len(s) && '0' <= s[i] && s[i] <= '9' {
		i++
	}
	return s[:i], s[i:]
}

// readPower is the power of ten that s, which is not empty, tells from its e or E on; one beyond farPower, to either side, is told as farPower.
func readPower(s string) (int, bool) {
	if s[0] != 'e' && s[0] != 'E' {
		return 0, false
	}
	s, negative := strings.CutPrefix(s[1:], "-")
	if !negative {
		s = strings.TrimPrefix(s, "+")
	}
	figures, rest := cutDigits(s)
	if figures == "" || rest != "" {
		return 0, false
	}
	power := 0
	for i := range len(figures) {
		power = min(power*10+int(figures[i]-'0'), farPower)
	}
	if negative {
		power = -power
	}
	return power, true
}

// form is the form of a numeral's value. Noughts at both ends go first, as there may be more of them than an int holds.
func (n numeral) form() (api.Decimal, bool) {
	all := strings.TrimLeft(n.whole+n.fraction, "0")
	figures := strings.TrimRight(all, "0")
	if len(figures) > maxDigits {
		return api.Decimal{}, false
	}
	mant := 0
	for i := range len(figures) {
		mant = mant*10 + int(figures[i]-'0')
	}
	if n.negative {
		mant = -mant
	}
	return Make(mant, n.power-len(n.fraction)+len(all)-len(figures))
}

// Print is the text of a decimal in its form, without an exponent; else the empty text.
func Print(d api.Decimal) string {
	if !Right(d) {
		return ""
	}
	if d.Exp >= 0 {
		return strconv.Itoa(d.Mant) + strings.Repeat("0", d.Exp)
	}
	sign, figures := "", digits(d)
	if d.Mant < 0 {
		sign = "-"
	}
	// One digit more than stand behind the point, so that there is one ahead of it.
	figures = strings.Repeat("0", max(0, 1-d.Exp-len(figures))) + figures
	point := len(figures) + d.Exp
	return sign + figures[:point] + "." + figures[point:]
}
