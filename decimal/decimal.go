// Package decimal is layer 1: see shared/doc/01-decimal.md.
package decimal

import (
	"cmp"
	"strconv"

	"humpyard/api"
)

// maxWhole is the greatest number that Int tells, to either side.
const maxWhole = 1_000_000_000_000_000_000

// compare is -1, 0 or 1, as a is less than b, the same, or greater.
func compare[T cmp.Ordered](a, b T) int {
	switch {
	case a < b:
		return -1
	case b < a:
		return 1
	}
	return 0
}

// within tells whether n is at most bound away from 0. It does not take n's absolute value, as the least int has none.
func within(n, bound int) bool {
	return compare(n, -bound) >= 0 && compare(n, bound) <= 0
}

// Make is the one form of mant times ten to the power of exp, if there is one.
func Make(mant, exp int) (api.Decimal, bool) {
	if mant == 0 {
		return api.Decimal{}, true
	}
	// Taking noughts off only raises the exponent: one that is too great stays so, and is not to run over.
	if compare(exp, api.MaxExp) > 0 {
		return api.Decimal{}, false
	}
	for mant%10 == 0 {
		mant /= 10
		exp++
	}
	if !within(mant, api.MaxMant) || !within(exp, api.MaxExp) {
		return api.Decimal{}, false
	}
	return api.Decimal{Mant: mant, Exp: exp}, true
}

// Right tells whether d is in its one form.
func Right(d api.Decimal) bool {
	if d.Mant == 0 {
		return d.Exp == 0
	}
	return d.Mant%10 != 0 && within(d.Mant, api.MaxMant) && within(d.Exp, api.MaxExp)
}

// Compare is -1, 0 or 1, as a's value is less than b's, the same, or greater; 0, if one of them is not in its form.
func Compare(a, b api.Decimal) int {
	if !Right(a) || !Right(b) {
		return 0
	}
	sign := compare(a.Mant, 0)
	if c := compare(sign, compare(b.Mant, 0)); c != 0 {
		return c
	}
	// Farther from 0 is less, below 0.
	return sign * compareSize(a, b)
}

// compareSize is Compare without signs. Decimals whose first digits weigh the same are in the order of their digits as texts: none has noughts behind, so the shorter of two that begin alike is less.
func compareSize(a, b api.Decimal) int {
	left, right := digits(a), digits(b)
	if c := compare(len(left)+a.Exp, len(right)+b.Exp); c != 0 {
		return c
	}
	return compare(left, right)
}

// digits are those of d's mantissa, without its sign.
func digits(d api.Decimal) string {
	return strconv.Itoa(max(d.Mant, -d.Mant))
}

// Add is the sum of a and b, if both are in their forms, and the sum has one.
func Add(a, b api.Decimal) (api.Decimal, bool) {
	if !Right(a) || !Right(b) {
		return api.Decimal{}, false
	}
	// 0 has but one exponent: it can't be brought to the other one's.
	if a.Mant == 0 {
		return b, true
	}
	if b.Mant == 0 {
		return a, true
	}
	if compare(a.Exp, b.Exp) < 0 {
		a, b = b, a
	}
	// With different exponents the sum ends in b's last digit, not in a nought, so it must itself be a mantissa: more than two of the greatest is too far for b to bring it back.
	mant, ok := raise(a.Mant, a.Exp-b.Exp, 2*api.MaxMant)
	if !ok {
		return api.Decimal{}, false
	}
	return Make(mant+b.Mant, b.Exp)
}

// Int is d's value, if d is in its form, and that is a whole number of at most 10^18 to either side.
func Int(d api.Decimal) (int, bool) {
	// In its form a number with an exponent below 0 is never whole.
	if !Right(d) || d.Exp < 0 {
		return 0, false
	}
	return raise(d.Mant, d.Exp, maxWhole)
}

// raise is n, within bound, times ten to the power of exp, if that is within bound as well.
func raise(n, exp, bound int) (int, bool) {
	for range exp {
		if !within(n, bound/10) {
			return 0, false
		}
		n *= 10
	}
	return n, true
}
