package walk_test

import (
	"math/rand"
	"slices"
	"testing"

	"humpyard/api"
	"humpyard/order"
	"humpyard/walk"
)

// W1

func wantBase(t *testing.T, o api.Order, want ...int) {
	t.Helper()
	if got := walk.Base(o); !slices.Equal(got, want) {
		t.Errorf("Base(%s): %v; want %v", told(o), got, want)
	}
}

func TestBasePlain(t *testing.T) {
	path := []int{0, 1003, 4, 1000, 7}
	wantBase(t, over(1, 2, 0, 6, 1, path...), 0)
	wantBase(t, over(1, 2, 0, 6, 2, path...), 0, 1003, 4)
	wantBase(t, over(1, 2, 0, 6, 3, path...), 0, 1003, 4, 1000, 7)
	wantBase(t, over(1, 2, 0, 0, 1, 3), 3)
	// One comes to a node, and over an edge, more than once.
	wantBase(t, over(1, 2, 0, 0, 4, 5, 1001, 6, 1002, 5, 1001, 6, 1002, 5), 5, 1001, 6, 1002, 5, 1001, 6)
}

// TestBaseGreat: an order that is right may tell of what no layout has.
func TestBaseGreat(t *testing.T) {
	wantBase(t, over(1, 2, 0, 0, 2, 999, 1999, 1000, 2000, 1001), 999, 1999, 1000)
	wantBase(t, over(1_000_000_000, 1_000_000_000, 1_000_000_000, 999_999_998, 2, 1_000_000_000, 1_000_001_000, 0), 1_000_000_000, 1_000_001_000, 0)
	wantBase(t, over(0, 0, 0, 1_000_000_000, 1, 1_000_000_000), 1_000_000_000)
}

func TestBaseCounts(t *testing.T) {
	for count := 1; count <= 64; count++ {
		path := round(2*count-1, 7)
		for released := 1; released <= count; released++ {
			wantBase(t, over(1, 2, 3, 4, released, path...), path[:2*released-1]...)
		}
	}
}

// TestBaseWrong: of an order that is not right there is nothing, whatever it releases.
func TestBaseWrong(t *testing.T) {
	for _, o := range spoiled(over(2, 5, 1, 4, 2, 0, 1000, 1, 1001, 2)) {
		if order.Right(o) {
			t.Fatalf("%s is right", told(o))
		}
		wantBase(t, o)
	}
	wantBase(t, over(1, 2, 0, 0, 65, round(129, 4)...))
	wantBase(t, over(1, 2, 0, 0, 2, 0, 999, 1))
}

func TestBaseByChance(t *testing.T) {
	chance := rand.New(rand.NewSource(1))
	for range 3000 {
		for _, o := range bent(chance, anyLog(chance, anyLayout(chance), 5)) {
			wantBase(t, o, baseOf(o)...)
		}
	}
}

// W2

func wantFits(t *testing.T, l api.Layout, o api.Order, want bool) {
	t.Helper()
	if got := walk.Fits(l, o); got != want {
		t.Errorf("Fits(%s, %s): %t", told(l), told(o), got)
	}
}

func TestFitsPlain(t *testing.T) {
	for _, x := range []struct {
		path []int
		want bool
	}{
		{[]int{0}, true}, {[]int{3}, true}, {[]int{4}, true}, {[]int{0, 1000, 1}, true}, {[]int{0, 1000, 1, 1001, 2, 1002, 3}, true}, {[]int{0, 1005, 2, 1002, 3, 1003, 0}, true},
		{[]int{0, 1000, 1, 1004, 0, 1000, 1}, true}, {[]int{4, 1006, 1, 1004, 0}, true},
		// no node
		{[]int{5}, false}, {[]int{40}, false}, {[]int{1000}, false}, {[]int{1_000_000_000}, false}, {[]int{0, 1000, 5}, false}, {[]int{5, 1000, 1}, false},
		// no edge
		{[]int{0, 1007, 1}, false}, {[]int{0, 1120, 1}, false}, {[]int{0, 1_000_001_000, 1}, false}, {[]int{0, 1000, 1, 1007, 2}, false},
		// an edge that leads elsewhere, or from elsewhere; back; there is one, by another number
		{[]int{0, 1000, 2}, false}, {[]int{0, 1001, 2}, false}, {[]int{0, 1001, 1}, false}, {[]int{1, 1000, 0}, false}, {[]int{0, 1000, 0}, false}, {[]int{0, 1004, 1}, false}, {[]int{1, 1000, 2}, false},
		{[]int{0, 1000, 1, 1001, 2, 1005, 0}, false}, {[]int{0, 1000, 1, 1002, 3}, false}, {[]int{4, 1000, 1}, false}, {[]int{0, 1000, 4}, false},
	} {
		for released := 1; released <= (len(x.path)+1)/2; released++ {
			wantFits(t, yard(), over(1, 2, 3, 4, released, x.path...), x.want)
		}
	}
}

// TestFitsWhole: what is not released must be in the layout as well; the greatest layout has all its nodes and edges.
func TestFitsWhole(t *testing.T) {
	long := round(127, 40)
	wantFits(t, ring(40), over(1, 2, 0, 0, 1, long...), true)
	wantFits(t, jumps(), over(1, 2, 0, 0, 64, long...), true)
	for at := range long {
		other := slices.Clone(long)
		other[at]++
		wantFits(t, ring(40), over(1, 2, 0, 0, 1, other...), false)
		wantFits(t, jumps(), over(1, 2, 0, 0, 64, other...), false)
	}
	l := jumps()
	for n, e := range l.Edges {
		for from := range l.Nodes {
			wantFits(t, l, over(1, 2, 0, 0, 1, from, 1000+n, e.To), from == e.From)
			wantFits(t, l, over(1, 2, 0, 0, 2, e.From, 1000+n, from), from == e.To)
		}
	}
	for node := range 50 {
		wantFits(t, of(40), over(1, 2, 0, 0, 1, node), node < 40)
		wantFits(t, of(1), over(1, 2, 0, 0, 1, node), node < 1)
	}
}

func TestFitsWrong(t *testing.T) {
	good := over(2, 5, 1, 4, 2, 0, 1000, 1, 1001, 2)
	wantFits(t, yard(), good, true)
	for _, o := range spoiled(good) {
		wantFits(t, yard(), o, false)
	}
	for _, l := range wrongLayouts() {
		wantFits(t, l, good, false)
		wantFits(t, l, over(2, 5, 1, 4, 1, 0), false)
	}
}

func TestFitsByChance(t *testing.T) {
	chance := rand.New(rand.NewSource(2))
	yes, no := 0, 0
	for range 3000 {
		l := anyLayout(chance)
		for _, o := range bent(chance, anyLog(chance, l, 5)) {
			want := fits(l, o)
			wantFits(t, l, o, want)
			if want {
				yes++
			} else {
				no++
			}
		}
	}
	if yes < 1000 || no < 500 {
		t.Errorf("%d fit, %d do not: too few", yes, no)
	}
}
