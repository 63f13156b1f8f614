package walk_test

import (
	"math/rand"
	"testing"

	"humpyard/api"
	"humpyard/walk"
)

// W3

func wantFollows(t *testing.T, a, b api.Order, want bool) {
	t.Helper()
	if got := walk.Follows(a, b); got != want {
		t.Errorf("Follows(%s, %s): %t", told(a), told(b), got)
	}
}

// first is an order over three nodes, of which two are released: 1 is the last one, with the number 6.
func first() api.Order { return over(4, 5, 2, 4, 2, 0, 1000, 1, 1001, 2) }

func TestFollowsUpdate(t *testing.T) {
	a := first()
	for i, x := range []struct {
		b    api.Order
		want bool
	}{
		{over(5, 5, 3, 6, 1, 1), true}, {over(5, 5, 3, 6, 2, 1, 1001, 2), true}, {over(1_000_000_000, 5, 1_000_000_000, 6, 1, 1), true},
		// wherever it goes on: what is not released may come otherwise
		{over(5, 5, 3, 6, 2, 1, 1007, 9, 1000, 1), true},
		// the header
		{over(4, 5, 3, 6, 1, 1), false}, {over(3, 5, 3, 6, 1, 1), false}, {over(0, 5, 3, 6, 1, 1), false},
		// the update
		{over(5, 5, 2, 6, 1, 1), false}, {over(5, 5, 1, 6, 1, 1), false}, {over(5, 5, 0, 6, 1, 1), false},
		// by its node, and by its number: that of a released one which is not the last, of one that is not released, of none
		{over(5, 5, 3, 6, 1, 0), false}, {over(5, 5, 3, 6, 1, 2), false}, {over(5, 5, 3, 4, 1, 1), false}, {over(5, 5, 3, 8, 1, 1), false}, {over(5, 5, 3, 4, 1, 0), false}, {over(5, 5, 3, 8, 1, 2), false}, {over(5, 5, 3, 0, 1, 1), false}, {over(5, 5, 3, 6, 1, 7), false},
	} {
		if got := walk.Follows(a, x.b); got != x.want {
			t.Errorf("%d: %t", i, got)
		}
	}
	// All, and one node of it released.
	wantFollows(t, over(4, 5, 2, 4, 3, 0, 1000, 1, 1001, 2), over(5, 5, 3, 8, 1, 2), true)
	wantFollows(t, over(4, 5, 2, 4, 3, 0, 1000, 1, 1001, 2), over(5, 5, 3, 6, 1, 1), false)
	wantFollows(t, over(4, 5, 2, 4, 1, 0, 1000, 1, 1001, 2), over(5, 5, 3, 4, 1, 0), true)
	wantFollows(t, over(4, 5, 2, 4, 1, 0, 1000, 1, 1001, 2), over(5, 5, 3, 6, 1, 1), false)
	// One node, of which there are two: the number tells which of them it is.
	wantFollows(t, over(4, 5, 2, 4, 3, 1, 1000, 2, 1001, 1), over(5, 5, 3, 8, 1, 1), true)
	wantFollows(t, over(4, 5, 2, 4, 3, 1, 1000, 2, 1001, 1), over(5, 5, 3, 4, 1, 1), false)
	// The greatest number.
	wantFollows(t, over(4, 5, 2, 999_999_998, 2, 0, 1000, 1), over(5, 5, 3, 1_000_000_000, 1, 1), true)
	wantFollows(t, over(4, 5, 2, 999_999_998, 2, 0, 1000, 1), over(5, 5, 3, 999_999_998, 1, 1), false)
	wantFollows(t, over(0, 0, 0, 0, 1, 0), over(1, 0, 1, 0, 1, 0), true)
	wantFollows(t, over(0, 0, 0, 0, 64, round(127, 40)...), over(1, 0, 1, 126, 1, 23), true)
}

func TestFollowsOther(t *testing.T) {
	for _, number := range []int{0, 4, 6, 1_000_000_000} {
		for _, node := range []int{0, 1, 2, 7, 1_000_000_000} {
			for _, seq := range []int{0, 4, 6, 8, 1_000_000_000} {
				wantFollows(t, first(), over(5, number, 0, seq, 1, node), true)
				wantFollows(t, first(), over(5, number, 1, seq, 1, node), false)
				wantFollows(t, first(), over(5, number, 3, seq, 1, node), false)
				wantFollows(t, first(), over(4, number, 0, seq, 1, node), false)
				wantFollows(t, first(), over(0, number, 0, seq, 1, node), false)
			}
		}
	}
	wantFollows(t, first(), over(5, 6, 1_000_000_000, 6, 1, 1), false)
}

func TestFollowsVehicle(t *testing.T) {
	for _, b := range []api.Order{over(5, 5, 3, 6, 1, 1), over(5, 6, 0, 0, 1, 1)} {
		wantFollows(t, first(), b, true)
		for _, name := range []string{"w", "V", "vv", "", "v ", "v.v"} {
			other := with(b, func(o *api.Order) { o.Vehicle = name })
			wantFollows(t, first(), other, false)
			wantFollows(t, with(first(), func(o *api.Order) { o.Vehicle = name }), b, false)
		}
		named := func(o *api.Order) { o.Vehicle = "a.B:9-_" }
		wantFollows(t, with(first(), named), with(b, named), true)
	}
}

// TestFollowsWrong: neither may be wrong, of one number or of two.
func TestFollowsWrong(t *testing.T) {
	update, other := over(5, 5, 3, 6, 2, 1, 1001, 2, 1002, 3), over(5, 6, 0, 0, 2, 1, 1001, 2, 1002, 3)
	wantFollows(t, first(), update, true)
	wantFollows(t, first(), other, true)
	for _, o := range spoiled(first()) {
		wantFollows(t, o, update, false)
		wantFollows(t, o, other, false)
		wantFollows(t, o, o, false)
	}
	for _, good := range []api.Order{update, other} {
		for _, o := range spoiled(good) {
			wantFollows(t, first(), o, false)
		}
	}
	wantFollows(t, api.Order{}, api.Order{Header: 1}, false)
	// What follows first is right, but where it is not.
	wantFollows(t, with(first(), func(o *api.Order) { o.Edges[1].Seq = 9 }), update, false)
}

func TestFollowsByChance(t *testing.T) {
	chance := rand.New(rand.NewSource(3))
	yes, no := 0, 0
	for range 3000 {
		all := bent(chance, anyLog(chance, anyLayout(chance), 6))
		for i := range all {
			for j := range all {
				want := follows(all[i], all[j])
				wantFollows(t, all[i], all[j], want)
				if want {
					yes++
				} else {
					no++
				}
			}
		}
	}
	if yes < 1000 || no < 1000 {
		t.Errorf("%d follow, %d do not: too few", yes, no)
	}
}
