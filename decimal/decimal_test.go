package decimal_test

import (
	"math"
	"math/big"
	"testing"

	"humpyard/api"
	"humpyard/decimal"
)

// mantissas and exponents hold ordinary numbers, the edges of the form, and what is far beyond them.
var (
	mantissas = []int{
		0, 1, -1, 2, 5, 9, -9, 10, -10, 11, 12, 25, -25, 99, 100, 101, 120, 1200, 12345, -12345,
		999_999_999, 1_000_000_000, 1_000_000_001, 99_999_999_999_999, 100_000_000_000_001,
		999_999_999_999_998, 999_999_999_999_999, -999_999_999_999_999,
		1_000_000_000_000_000, -1_000_000_000_000_000, 1_000_000_000_000_001, -1_000_000_000_000_001,
		9_999_999_999_999_990, 10_000_000_000_000_000, -10_000_000_000_000_010,
		1_000_000_000_000_000_000, -1_000_000_000_000_000_000, 9_000_000_000_000_000_000,
		math.MaxInt, math.MinInt, math.MinInt + 8,
	}
	exponents = []int{
		0, 1, -1, 2, -2, 3, 5, -5, 8, -8, 9, -9, 10, -10, 11, -11, 15, -15, 18, -18, 24, -24, -27, -28,
		1000, -1000, math.MaxInt, math.MaxInt - 1, math.MaxInt - 17, math.MinInt, math.MinInt + 1,
	}
)

// inForm is the chapter's word for the form, said anew.
func inForm(d api.Decimal) bool {
	if d.Mant == 0 {
		return d.Exp == 0
	}
	return d.Mant >= -1e15 && d.Mant <= 1e15 && d.Exp >= -9 && d.Exp <= 9 && d.Mant%10 != 0
}

// value is mant times ten to the power of exp, of an exponent that is not far from 0.
func value(mant, exp int) *big.Rat {
	power := new(big.Int).Exp(big.NewInt(10), big.NewInt(int64(max(exp, -exp))), nil)
	v := new(big.Rat).SetInt64(int64(mant))
	if exp < 0 {
		return v.Quo(v, new(big.Rat).SetInt(power))
	}
	return v.Mul(v, new(big.Rat).SetInt(power))
}

func worth(d api.Decimal) *big.Rat { return value(d.Mant, d.Exp) }

// formOf finds the form of a value by trying each exponent.
func formOf(v *big.Rat) (api.Decimal, bool) {
	for exp := -9; exp <= 9; exp++ {
		m := new(big.Rat).Mul(v, value(1, -exp))
		if !m.IsInt() || !m.Num().IsInt64() {
			continue
		}
		d := api.Decimal{Mant: int(m.Num().Int64()), Exp: exp}
		if inForm(d) {
			return d, true
		}
	}
	return api.Decimal{}, false
}

// forms are decimals in their forms: each mantissa of the list that may be one, with each exponent.
func forms() []api.Decimal {
	var out []api.Decimal
	for _, m := range mantissas {
		for _, e := range exponents {
			if d := (api.Decimal{Mant: m, Exp: e}); inForm(d) {
				out = append(out, d)
			}
		}
	}
	return out
}

// misformed are decimals that are not in their forms.
func misformed() []api.Decimal {
	var out []api.Decimal
	for _, m := range mantissas {
		for _, e := range exponents {
			if d := (api.Decimal{Mant: m, Exp: e}); !inForm(d) {
				out = append(out, d)
			}
		}
	}
	return out
}

// D1

func TestMakeTable(t *testing.T) {
	for _, c := range []struct {
		mant, exp int
		want      api.Decimal
		ok        bool
	}{
		{1200, -1, api.Decimal{Mant: 12, Exp: 1}, true},
		{7, 0, api.Decimal{Mant: 7}, true},
		{-70, 0, api.Decimal{Mant: -7, Exp: 1}, true},
		{0, 0, api.Decimal{}, true},
		{0, 5, api.Decimal{}, true},
		{0, math.MaxInt, api.Decimal{}, true},
		{0, math.MinInt, api.Decimal{}, true},
		{1, 9, api.Decimal{Mant: 1, Exp: 9}, true},
		{1, 10, api.Decimal{}, false},
		{10, 9, api.Decimal{}, false},
		{10, 8, api.Decimal{Mant: 1, Exp: 9}, true},
		{1, -9, api.Decimal{Mant: 1, Exp: -9}, true},
		{1, -10, api.Decimal{}, false},
		{10, -10, api.Decimal{Mant: 1, Exp: -9}, true},
		{999_999_999_999_999, 9, api.Decimal{Mant: 999_999_999_999_999, Exp: 9}, true},
		{-999_999_999_999_999, -9, api.Decimal{Mant: -999_999_999_999_999, Exp: -9}, true},
		{1_000_000_000_000_000, 0, api.Decimal{}, false},
		{1_000_000_000_000_000, -6, api.Decimal{Mant: 1, Exp: 9}, true},
		{1_000_000_000_000_000, -24, api.Decimal{Mant: 1, Exp: -9}, true},
		{1_000_000_000_000_001, 0, api.Decimal{}, false},
		{-1_000_000_000_000_001, 0, api.Decimal{}, false},
		{9_999_999_999_999_990, 0, api.Decimal{Mant: 999_999_999_999_999, Exp: 1}, true},
		{1_000_000_000_000_000_000, -27, api.Decimal{Mant: 1, Exp: -9}, true},
		{1_000_000_000_000_000_000, -28, api.Decimal{}, false},
		{1_000_000_000_000_000_000, math.MaxInt, api.Decimal{}, false},
		{1_000_000_000_000_000_000, math.MinInt, api.Decimal{}, false},
		{math.MaxInt, 0, api.Decimal{}, false},
		{math.MinInt, 0, api.Decimal{}, false},
		{math.MinInt, math.MinInt, api.Decimal{}, false},
	} {
		if d, ok := decimal.Make(c.mant, c.exp); d != c.want || ok != c.ok {
			t.Errorf("Make(%d, %d): %v, %v; want %v, %v", c.mant, c.exp, d, ok, c.want, c.ok)
		}
	}
}

func TestMakeGrid(t *testing.T) {
	for _, m := range mantissas {
		for exp := -40; exp <= 40; exp++ {
			want, ok := formOf(value(m, exp))
			if got, is := decimal.Make(m, exp); got != want || is != ok {
				t.Errorf("Make(%d, %d): %v, %v; want %v, %v", m, exp, got, is, want, ok)
			}
		}
	}
}

func TestMakeFarExponents(t *testing.T) {
	for _, m := range mantissas {
		for _, exp := range exponents {
			if max(exp, -exp) <= 40 && exp != math.MinInt {
				continue
			}
			if d, ok := decimal.Make(m, exp); d != (api.Decimal{}) || ok != (m == 0) {
				t.Errorf("Make(%d, %d): %v, %v", m, exp, d, ok)
			}
		}
	}
}

func TestRight(t *testing.T) {
	for _, d := range forms() {
		if !decimal.Right(d) {
			t.Errorf("%v is in its form", d)
		}
		if got, ok := decimal.Make(d.Mant, d.Exp); got != d || !ok {
			t.Errorf("Make of the form %v: %v, %v", d, got, ok)
		}
	}
	for _, d := range misformed() {
		if decimal.Right(d) {
			t.Errorf("%v is not in its form", d)
		}
	}
}

// D4

func TestCompare(t *testing.T) {
	all := forms()
	for _, a := range all {
		for _, b := range all {
			if got, want := decimal.Compare(a, b), worth(a).Cmp(worth(b)); got != want {
				t.Errorf("Compare(%v, %v): %d; want %d", a, b, got, want)
			}
		}
	}
}

func TestCompareMisformed(t *testing.T) {
	one := api.Decimal{Mant: 1}
	for _, d := range misformed() {
		if decimal.Compare(d, one) != 0 || decimal.Compare(one, d) != 0 || decimal.Compare(d, d) != 0 {
			t.Errorf("Compare with %v, which is not in its form", d)
		}
	}
	if decimal.Compare(api.Decimal{Mant: 10}, api.Decimal{Mant: -10}) != 0 {
		t.Error("Compare of two that are not in their forms")
	}
}

func TestAdd(t *testing.T) {
	all := forms()
	for _, a := range all {
		for _, b := range all {
			want, ok := formOf(new(big.Rat).Add(worth(a), worth(b)))
			if got, is := decimal.Add(a, b); got != want || is != ok {
				t.Errorf("Add(%v, %v): %v, %v; want %v, %v", a, b, got, is, want, ok)
			}
		}
	}
}

func TestAddEdges(t *testing.T) {
	const top = 999_999_999_999_999
	for _, c := range []struct {
		a, b, want api.Decimal
		ok         bool
	}{
		// The sum is in its form, though one summand, brought to the other one's exponent, is not.
		{api.Decimal{Mant: 1, Exp: 6}, api.Decimal{Mant: -1, Exp: -9}, api.Decimal{Mant: top, Exp: -9}, true},
		{api.Decimal{Mant: 19, Exp: 5}, api.Decimal{Mant: -top, Exp: -9}, api.Decimal{Mant: 900_000_000_000_001, Exp: -9}, true},
		{api.Decimal{Mant: 199_999_999_999_999, Exp: 1}, api.Decimal{Mant: -top}, api.Decimal{Mant: 999_999_999_999_991}, true},
		{api.Decimal{Mant: 2, Exp: 6}, api.Decimal{Mant: -top, Exp: -9}, api.Decimal{}, false},
		{api.Decimal{Mant: 1, Exp: 6}, api.Decimal{Mant: 1, Exp: -9}, api.Decimal{}, false},
		{api.Decimal{Mant: 1, Exp: 9}, api.Decimal{Mant: -1, Exp: -9}, api.Decimal{}, false},
		// Noughts that come about go to the exponent, if it has room.
		{api.Decimal{Mant: top, Exp: -9}, api.Decimal{Mant: 1, Exp: -9}, api.Decimal{Mant: 1, Exp: 6}, true},
		{api.Decimal{Mant: top}, api.Decimal{Mant: 1}, api.Decimal{}, false},
		{api.Decimal{Mant: 5, Exp: 9}, api.Decimal{Mant: 5, Exp: 9}, api.Decimal{}, false},
		{api.Decimal{Mant: 5, Exp: 8}, api.Decimal{Mant: 5, Exp: 8}, api.Decimal{Mant: 1, Exp: 9}, true},
		{api.Decimal{Mant: top, Exp: 9}, api.Decimal{Mant: -top, Exp: 9}, api.Decimal{}, true},
		{api.Decimal{}, api.Decimal{Mant: top, Exp: 9}, api.Decimal{Mant: top, Exp: 9}, true},
		{api.Decimal{}, api.Decimal{}, api.Decimal{}, true},
	} {
		for _, pair := range [][2]api.Decimal{{c.a, c.b}, {c.b, c.a}} {
			if d, ok := decimal.Add(pair[0], pair[1]); d != c.want || ok != c.ok {
				t.Errorf("Add(%v, %v): %v, %v; want %v, %v", pair[0], pair[1], d, ok, c.want, c.ok)
			}
		}
	}
}

func TestAddMisformed(t *testing.T) {
	for _, d := range misformed() {
		for _, right := range []api.Decimal{{}, {Mant: 1}} {
			for _, pair := range [][2]api.Decimal{{d, right}, {right, d}, {d, d}} {
				if got, ok := decimal.Add(pair[0], pair[1]); ok || got != (api.Decimal{}) {
					t.Errorf("Add(%v, %v): %v, %v", pair[0], pair[1], got, ok)
				}
			}
		}
	}
}

func TestInt(t *testing.T) {
	bound := big.NewRat(1_000_000_000_000_000_000, 1)
	for _, d := range forms() {
		v := worth(d)
		want, ok := 0, v.IsInt() && new(big.Rat).Abs(v).Cmp(bound) <= 0
		if ok {
			want = int(v.Num().Int64())
		}
		if got, is := decimal.Int(d); got != want || is != ok {
			t.Errorf("Int(%v): %d, %v; want %d, %v", d, got, is, want, ok)
		}
	}
	for _, d := range misformed() {
		if n, ok := decimal.Int(d); n != 0 || ok {
			t.Errorf("Int(%v): %d, %v", d, n, ok)
		}
	}
}

// 10^18 itself has no form: the nearest numbers that have one stand on both sides of it.
func TestIntAtItsBound(t *testing.T) {
	for _, c := range []struct {
		d    api.Decimal
		want int
		ok   bool
	}{
		{api.Decimal{Mant: 999_999_999_999_999, Exp: 3}, 999_999_999_999_999_000, true},
		{api.Decimal{Mant: -999_999_999_999_999, Exp: 3}, -999_999_999_999_999_000, true},
		{api.Decimal{Mant: 999_999_999, Exp: 9}, 999_999_999_000_000_000, true},
		{api.Decimal{Mant: 99_999_999_999_999, Exp: 4}, 999_999_999_999_990_000, true},
		{api.Decimal{Mant: 100_000_000_000_001, Exp: 4}, 0, false},
		{api.Decimal{Mant: -100_000_000_000_001, Exp: 4}, 0, false},
		{api.Decimal{Mant: 1_000_000_001, Exp: 9}, 0, false},
		{api.Decimal{Mant: 999_999_999_999_999, Exp: 4}, 0, false},
		{api.Decimal{Mant: -999_999_999_999_999, Exp: 9}, 0, false},
		{api.Decimal{Mant: 1, Exp: 18}, 0, false},
		{api.Decimal{Mant: -1, Exp: 18}, 0, false},
		{api.Decimal{Mant: 1_000_000_000_000_000_000}, 0, false},
		{api.Decimal{Mant: 15, Exp: -1}, 0, false},
		{api.Decimal{}, 0, true},
	} {
		if n, ok := decimal.Int(c.d); n != c.want || ok != c.ok {
			t.Errorf("Int(%v): %d, %v; want %d, %v", c.d, n, ok, c.want, c.ok)
		}
	}
}

// D5

func TestCompareIsAnOrder(t *testing.T) {
	all := forms()
	for _, a := range all {
		for _, b := range all {
			if c := decimal.Compare(a, b); c != -decimal.Compare(b, a) || (c == 0) != (a == b) {
				t.Errorf("Compare(%v, %v): %d, turned %d", a, b, c, decimal.Compare(b, a))
			}
		}
	}
	for i := 0; i < len(all); i += 7 {
		for k := 0; k < len(all); k += 5 {
			if decimal.Compare(all[i], all[k]) >= 0 {
				continue
			}
			for _, c := range all {
				if decimal.Compare(all[k], c) < 0 && decimal.Compare(all[i], c) >= 0 {
					t.Errorf("%v < %v < %v, but not the first and the last", all[i], all[k], c)
				}
			}
		}
	}
}

func TestAddKeepsTheOrder(t *testing.T) {
	all := forms()
	for i := 0; i < len(all); i += 3 {
		for k := 0; k < len(all); k += 4 {
			less := decimal.Compare(all[i], all[k])
			for _, c := range all {
				a, ok := decimal.Add(all[i], c)
				b, is := decimal.Add(all[k], c)
				if ok && is && decimal.Compare(a, b) != less {
					t.Errorf("%v and %v, each with %v: %v, %v", all[i], all[k], c, a, b)
				}
			}
		}
	}
}
