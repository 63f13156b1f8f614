package walk_test

import (
	"math/rand"
	"slices"
	"testing"

	"humpyard/api"
	"humpyard/walk"
)

// W4

func wantCheck(t *testing.T, l api.Layout, want int, all ...api.Order) {
	t.Helper()
	if got := walk.Check(l, all); got != want {
		t.Errorf("Check(%s, %s): %d; want %d", told(l), told(all), got, want)
	}
}

// number5 is an order over the yard, its update, and the one behind that; together they release the nodes 0, 1, 2.
func number5() []api.Order {
	return []api.Order{over(1, 5, 0, 4, 2, 0, 1000, 1, 1001, 2), over(2, 5, 1, 6, 1, 1, 1001, 2, 1002, 3), over(4, 5, 3, 6, 2, 1, 1001, 2, 1002, 3)}
}

func TestCheckNone(t *testing.T) {
	wantCheck(t, yard(), -1)
	wantCheck(t, yard(), -1, []api.Order{}...)
	wantCheck(t, api.Layout{}, -1)
	for _, l := range wrongLayouts() {
		wantCheck(t, l, -1)
		wantCheck(t, l, 0, number5()...)
	}
}

func TestCheckOne(t *testing.T) {
	wantCheck(t, yard(), -1, over(1, 5, 0, 0, 1, 0))
	wantCheck(t, yard(), -1, over(0, 0, 0, 0, 1, 4))
	wantCheck(t, yard(), -1, over(9, 7, 0, 8, 2, 0, 1000, 1, 1001, 2))
	wantCheck(t, yard(), 0, over(1, 5, 1, 0, 1, 0))
	wantCheck(t, yard(), 0, over(1, 0, 1_000_000_000, 0, 1, 0))
	wantCheck(t, yard(), 0, over(1, 5, 0, 0, 1, 5))
	wantCheck(t, yard(), 0, over(1, 5, 0, 0, 1, 0, 1001, 2))
	wantCheck(t, yard(), 0, api.Order{})
	for _, o := range spoiled(first()) {
		wantCheck(t, yard(), 0, o)
		wantCheck(t, yard(), 3, append(number5(), o)...)
		wantCheck(t, yard(), 1, number5()[0], o, number5()[1])
	}
}

func TestCheckUpdates(t *testing.T) {
	all := number5()
	wantCheck(t, yard(), -1, all...)
	wantCheck(t, yard(), -1, all[:2]...)
	wantCheck(t, yard(), 0, all[1:]...)
	wantCheck(t, yard(), 1, all[0], all[0], all[1])
	wantCheck(t, yard(), 2, all[0], all[2], all[0])
	wantCheck(t, yard(), -1, all[0], all[2], over(5, 5, 4, 8, 1, 2))
	wantCheck(t, yard(), 2, all[0], all[2], over(5, 5, 4, 6, 1, 1))
	wantCheck(t, yard(), 2, all[0], all[1], over(5, 5, 1, 6, 1, 1))
	// It fits no more, or does not fit though it follows.
	wantCheck(t, yard(), 1, all[0], over(2, 5, 1, 6, 1, 1, 1002, 3))
	wantCheck(t, yard(), 2, all[0], all[1], over(3, 5, 2, 6, 1, 1, 1001, 2, 1004, 3))
	wantCheck(t, of(5, ring(4).Edges[:2]...), 1, all...)
	// The first one of several is told.
	wantCheck(t, yard(), 1, all[0], api.Order{}, api.Order{}, all[1], over(0, 0, 5, 0, 1, 9))
}

func TestCheckOthers(t *testing.T) {
	all := number5()
	// Another number begins at any node that was released, by whichever of the orders ahead; with whatever running number.
	for node, want := range []int{-1, -1, -1, 3, 3, 3} {
		for _, seq := range []int{0, 4, 6, 8, 1_000_000_000} {
			wantCheck(t, yard(), want, append(number5(), over(9, 6, 0, seq, 1, node))...)
		}
		wantCheck(t, yard(), 3, append(number5(), over(9, 6, 1, 0, 1, node))...)
		wantCheck(t, yard(), 3, append(number5(), over(4, 6, 0, 0, 1, node))...)
	}
	// Nothing behind its own first node is released: it does not go on from where its number's elder orders lead.
	wantCheck(t, yard(), -1, all[0], over(2, 6, 0, 0, 1, 0, 1000, 1), over(3, 7, 0, 0, 1, 0))
	wantCheck(t, yard(), 2, all[0], over(2, 6, 0, 0, 1, 0, 1000, 1), over(3, 7, 0, 0, 1, 1))
	wantCheck(t, yard(), 2, all[0], over(2, 6, 0, 0, 1, 1), over(3, 7, 0, 0, 1, 0))
	wantCheck(t, yard(), -1, all[0], over(2, 6, 0, 0, 1, 1), over(3, 7, 0, 0, 1, 1))
	// The same number once more, with another one between: what it led to then counts no more.
	wantCheck(t, yard(), 2, all[0], over(2, 6, 0, 0, 1, 1), over(3, 5, 0, 0, 1, 0))
	wantCheck(t, yard(), -1, all[0], over(2, 6, 0, 0, 1, 1), over(3, 5, 0, 0, 1, 1))
	wantCheck(t, yard(), 3, all[0], over(2, 6, 0, 0, 1, 1), over(3, 5, 0, 0, 1, 1), over(4, 8, 0, 0, 1, 0))
	wantCheck(t, yard(), -1, all[0], over(2, 6, 0, 0, 1, 1), over(3, 5, 0, 0, 2, 1, 1004, 0), over(4, 8, 0, 0, 1, 0))
	// An update of the one behind is held against that one.
	wantCheck(t, yard(), -1, all[0], over(2, 6, 0, 0, 2, 1, 1001, 2), over(3, 6, 1, 2, 2, 2, 1002, 3), over(4, 7, 0, 0, 1, 3))
	wantCheck(t, yard(), -1, all[0], over(2, 6, 0, 0, 2, 1, 1001, 2), over(3, 6, 1, 2, 2, 2, 1002, 3), over(4, 7, 0, 0, 1, 1))
	wantCheck(t, yard(), 3, all[0], over(2, 6, 0, 0, 2, 1, 1001, 2), over(3, 6, 1, 2, 2, 2, 1002, 3), over(4, 7, 0, 0, 1, 0))
	wantCheck(t, yard(), 2, all[0], over(2, 6, 0, 0, 2, 1, 1001, 2), all[2])
	// A vehicle of another name.
	for at := range 3 {
		other := copiedAll(all)
		other[at].Vehicle = "w"
		wantCheck(t, yard(), max(at, 1), other...)
	}
}

// TestCheckElder: the node may be one of whichever elder order, however many stand between.
func TestCheckElder(t *testing.T) {
	l := ring(40)
	all := []api.Order{over(0, 1, 0, 0, 2, round(5, 40)...)}
	for i := 1; i < 300; i++ {
		all = append(all, over(i, 1, i, 2*i, 2, i%40, 1000+i%40, (i+1)%40))
		next := over(900, 2, 0, 0, 1, 0)
		wantCheck(t, l, -1, append(slices.Clone(all), next)...)
		wantCheck(t, l, -1, append(slices.Clone(all), over(900, 2, 0, 0, 1, (i+1)%40))...)
		if i < 38 {
			wantCheck(t, l, len(all), append(slices.Clone(all), over(900, 2, 0, 0, 1, i+2))...)
		}
	}
}

// TestCheckMany: it ends soon, whatever its length.
func TestCheckMany(t *testing.T) {
	l := jumps()
	var all []api.Order
	for i := range 40000 {
		all = append(all, over(i, 1, i, 0, 1, 0, 1000, 1))
	}
	wantCheck(t, l, -1, all...)
	wantCheck(t, l, len(all), append(slices.Clone(all), over(50000, 2, 0, 0, 1, 1))...)
	for i := range all {
		all[i].Order, all[i].Update = i, 0
	}
	wantCheck(t, l, -1, all...)
}

func TestCheckByChance(t *testing.T) {
	chance := rand.New(rand.NewSource(4))
	found := map[int]int{}
	for range 6000 {
		l := anyLayout(chance)
		all := anyLog(chance, l, 8)
		wantCheck(t, l, -1, all...)
		all = bent(chance, all)
		want := check(l, all)
		wantCheck(t, l, want, all...)
		found[want]++
		if want >= 0 { // nothing behind it changes what is told
			wantCheck(t, l, want, all[:want+1]...)
			wantCheck(t, l, -1, all[:want]...)
		}
	}
	for at := -1; at < 5; at++ {
		if found[at] < 50 {
			t.Errorf("%d is found %d times: too few", at, found[at])
		}
	}
}
