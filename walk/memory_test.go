package walk_test

import (
	"slices"
	"testing"

	"humpyard/api"
	"humpyard/walk"
)

// roomy is a list in memory of its own, with room behind it, in which there is something.
func roomy[T any](list []T, behind T) []T {
	return append(slices.Clone(list), behind, behind, behind)[:len(list)]
}

// whole is a list with the room behind it.
func whole[T any](list []T) []T { return list[:cap(list)] }

// roomyOrder is an order whose lists have room behind them.
func roomyOrder(o api.Order) api.Order {
	o.Nodes, o.Edges = roomy(o.Nodes, api.Stop{Node: -7, Seq: -7, Released: true}), roomy(o.Edges, api.Way{Edge: -7, Seq: -7, Released: true})
	return o
}

// wholeOrder is an order, in memory of its own, with the room behind its lists.
func wholeOrder(o api.Order) api.Order {
	o.Nodes, o.Edges = slices.Clone(whole(o.Nodes)), slices.Clone(whole(o.Edges))
	return o
}

// TestHandedInStays: no call writes into what is handed in, nor behind its length.
func TestHandedInStays(t *testing.T) {
	orders := append(number5(), spoiled(first())...)
	orders = append(orders, over(6, 6, 0, 0, 1, 1), over(1, 2, 0, 0, 40, round(127, 4)...))
	paths := [][]int{nil, {}, {3}, {0, 1003, 4}, {0, 1003}, {1000}, round(127, 4), round(129, 4), round(130, 4)}
	for _, l := range append(wrongLayouts(), yard(), jumps(), of(1)) {
		l.Edges = roomy(l.Edges, edge(2, 0, 1))
		edges := slices.Clone(whole(l.Edges))
		for i, o := range orders {
			a, b := roomyOrder(o), roomyOrder(orders[(i+1)%len(orders)])
			wasA, wasB := wholeOrder(a), wholeOrder(b)
			all := roomy([]api.Order{roomyOrder(number5()[0]), a, b}, api.Order{Header: 3})
			walk.Base(a)
			walk.Fits(l, a)
			walk.Follows(a, b)
			walk.Check(l, all)
			walk.Check(l, all[1:])
			if !isSame(wholeOrder(a), wasA) || !isSame(wholeOrder(b), wasB) || !slices.Equal(whole(l.Edges), edges) {
				t.Fatalf("%s, %s or %s was written into", told(l), told(wasA), told(wasB))
			}
			if !isSame(wholeOrder(all[0]), wholeOrder(roomyOrder(number5()[0]))) || !isSame(wholeOrder(all[1]), wasA) || !isSame(wholeOrder(all[2]), wasB) || whole(all)[3].Header != 3 {
				t.Fatalf("the orders that Check was given were written into: %s", told(all))
			}
		}
	}
	for _, o := range orders {
		for _, path := range paths {
			head, list := roomyOrder(o), roomy(path, 7)
			wasHead, was := wholeOrder(head), slices.Clone(whole(list))
			walk.Stops(list)
			walk.Order(head, list, 4, 2)
			if !isSame(wholeOrder(head), wasHead) || !slices.Equal(whole(list), was) {
				t.Fatalf("%s or %s was written into", told(wasHead), told(was))
			}
		}
	}
}

// TestBehindIsNotThere: what stands behind a list's length is not there.
func TestBehindIsNotThere(t *testing.T) {
	o := over(1, 5, 0, 4, 3, 0, 1000, 1, 1001, 2)
	o.Nodes, o.Edges = o.Nodes[:2], o.Edges[:1]
	wantBase(t, o, 0, 1000, 1)
	wantFits(t, of(2, edge(0, 1, 1)), o, true)
	wantFollows(t, o, over(2, 5, 1, 6, 1, 1), true)
	wantFollows(t, o, over(2, 5, 1, 8, 1, 2), false)
	wantCheck(t, yard(), 1, o, over(2, 6, 0, 0, 1, 2))
	wantCheck(t, yard(), -1, append([]api.Order{o}, api.Order{})[:1]...)
	wantFits(t, of(2, []api.Edge{edge(0, 1, 1), edge(1, 0, 1)}[:1]...), over(1, 5, 0, 0, 1, 1, 1001, 0), false)
	path := []int{0, 1000, 1, 1001, 2}
	wantStops(t, path[:2], 0)
	wantStops(t, path[:3], 0, 1)
	wantOrder(t, named(1, "v", 5, 0), path[:3], 4, 3, over(1, 5, 0, 4, 2, 0, 1000, 1), true)
	wantNoOrder(t, path[:4], 0, 1)
}

// TestNothingIsKept: a call answers of what it is handed in alone, whatever stood there ahead.
func TestNothingIsKept(t *testing.T) {
	l, all := yard(), number5()
	wantCheck(t, l, -1, all...)
	all[1].Nodes[0].Seq = 4
	wantBase(t, all[1])
	wantCheck(t, l, 1, all...)
	all[1].Nodes[0].Seq = 6
	wantBase(t, all[1], 1)
	wantCheck(t, l, -1, all...)
	l.Edges[1] = edge(2, 1, 1)
	wantFits(t, l, all[0], false)
	wantCheck(t, l, 0, all...)
	path := []int{0, 1000, 1}
	o, _ := walk.Order(named(1, "v", 5, 0), path, 0, 2)
	path[0], path[1], path[2] = 9, 9, 9
	if !isSame(o, over(1, 5, 0, 0, 2, 0, 1000, 1)) {
		t.Errorf("writing into the path changed the order: %s", told(o))
	}
	wantNoOrder(t, path, 0, 2)
	wantStops(t, path, 9, 9)
}

// TestAnswersAreOwn: whoever writes into an answer, and into the room behind it, changes neither what was handed in, nor another answer.
func TestAnswersAreOwn(t *testing.T) {
	o, path := first(), round(129, 4)
	asks := []struct {
		want []int
		call func() []int
	}{
		{[]int{0, 1000, 1}, func() []int { return walk.Base(o) }},
		{walk.Stops(path), func() []int { return walk.Stops(path) }},
		{[]int{0}, func() []int { return walk.Stops(path[:1]) }},
		{path[:127:127], func() []int { a, _ := walk.Order(o, path, 0, 64); return walk.Base(a) }},
	}
	for _, spoil := range asks {
		var kept [][]int
		for _, other := range asks {
			kept = append(kept, other.call())
		}
		answer := whole(spoil.call())
		for i := range answer {
			answer[i] = -77
		}
		_ = append(answer, -78)
		for i, other := range asks {
			if !slices.Equal(kept[i], other.want) || !slices.Equal(other.call(), other.want) {
				t.Errorf("%d: %v; was %v", i, kept[i], other.want)
			}
		}
	}
	one, _ := walk.Order(o, path, 0, 64)
	two, _ := walk.Order(o, path, 0, 64)
	want := over(o.Header, o.Order, o.Update, 0, 64, path[:127]...)
	for i := range whole(one.Nodes) {
		whole(one.Nodes)[i] = api.Stop{Node: -1}
	}
	for i := range whole(one.Edges) {
		whole(one.Edges)[i] = api.Way{Edge: -1}
	}
	if !isSame(two, want) || !isSame(o, first()) || !slices.Equal(path, round(129, 4)) {
		t.Errorf("writing into an order changed %s", told(two))
	}
	wantOrder(t, o, path, 0, 64, want, true)
}
