package route_test

import (
	"slices"
	"testing"

	"humpyard/api"
	"humpyard/route"
)

// roomy is a list in memory of its own, with room behind it, in which there is something.
func roomy[T any](list []T, behind T) []T {
	return append(slices.Clone(list), behind, behind, behind)[:len(list)]
}

// callAll makes each call.
func callAll(l api.Layout, numbers []int) {
	route.Cost(l, numbers)
	nodes := []int{-1, 0, 1, 2, 39, 40}
	for _, from := range nodes {
		route.Far(l, numbers, from)
		for _, to := range nodes {
			route.Route(l, numbers, from, to)
			route.Tour(l, numbers, from, to, from)
			route.Tour(l, numbers, from, to, 0)
		}
	}
}

// TestHandedInStays: no call writes into what is handed in, nor behind its length.
func TestHandedInStays(t *testing.T) {
	for _, l := range append(rightLayouts(), wrongLayouts()...) {
		for _, numbers := range [][]int{nil, {}, {2, 0, 2}, {39, -1, 40, 1}} {
			given := api.Layout{Nodes: l.Nodes, Edges: roomy(l.Edges, edge(1, 0, 7))}
			list := roomy(numbers, 1)
			edges, was := slices.Clone(given.Edges[:cap(given.Edges)]), slices.Clone(list[:cap(list)])
			callAll(given, list)
			if !slices.Equal(given.Edges[:cap(given.Edges)], edges) || !slices.Equal(list[:cap(list)], was) {
				t.Fatalf("%s, or %v, was written into", told(l), numbers)
			}
		}
	}
}

// TestBehindIsNotThere: what stands behind a list's length is not there.
func TestBehindIsNotThere(t *testing.T) {
	l := api.Layout{Nodes: 3, Edges: roomy([]api.Edge{edge(0, 1, 1), edge(1, 2, 1)}, edge(2, 0, 1))}
	wantRoute(t, l, nil, 2, 0, nil, api.ErrRoute)
	wantFar(t, l, nil, 0, []int{0, -1, -1})
	wantCost(t, l, []int{0, 1, 2}, 2)
	wantCost(t, l, roomy([]int{0}, 1), 1)
	wantRoute(t, l, roomy([]int{0}, 1), 0, 2, []int{0, 1}, api.OK)
	wantTour(t, l, roomy([]int{0}, 1), 0, 2, 2, []int{0, 1}, api.OK)
	wantFar(t, l, roomy([]int{0}, 1), 2, []int{2, 1, 0})
	l.Edges = roomy(l.Edges[:2], edge(9, 9, 0))
	wantRoute(t, l, nil, 0, 2, []int{0, 1}, api.OK)
}

// TestNothingIsKept: a call answers of what it is handed in alone, whatever stood there ahead.
func TestNothingIsKept(t *testing.T) {
	l, blocked := yard(), []int{1}
	wantRoute(t, l, blocked, 0, 3, []int{2, 3}, api.OK)
	blocked[0] = 2
	wantRoute(t, l, blocked, 0, 3, []int{0, 5}, api.OK)
	wantFar(t, l, blocked, 3, []int{7, 6, 4, 0, 8})
	l.Edges[5].Cost = 1
	wantRoute(t, l, nil, 0, 3, []int{0, 5}, api.OK)
	wantFar(t, l, blocked, 3, []int{2, 1, 4, 0, 3})
	wantCost(t, l, []int{0, 5}, 2)
	l.Edges[5] = edge(3, 4, 9)
	wantTour(t, l, nil, 4, 3, 4, []int{6, 0, 1, 3, 5}, api.OK)
	l.Edges[0].Cost = 0
	wantTour(t, l, nil, 4, 3, 4, nil, api.ErrArg)
	wantFar(t, l, nil, 3, nil)
	l.Edges[0].Cost = 1
	wantTour(t, l, nil, 4, 3, 4, []int{6, 0, 1, 3, 5}, api.OK)
}

// TestAnswersAreOwn: whoever writes into an answer, and into the room behind it, changes neither what was handed in, nor another answer.
func TestAnswersAreOwn(t *testing.T) {
	l, blocked := yard(), []int{4}
	way := func(edges []int, errno api.Errno) []int { return edges }
	ask := []struct {
		want []int
		call func() []int
	}{
		{[]int{6, 5, 4, 0, 7}, func() []int { return route.Far(l, blocked, 3) }},
		{[]int{-1, -1, -1, -1, 0}, func() []int { return route.Far(l, blocked, 4) }},
		{[]int{0, 1, 3}, func() []int { return way(route.Route(l, blocked, 0, 3)) }},
		{[]int{4}, func() []int { return way(route.Route(l, blocked, 3, 0)) }},
		{nil, func() []int { return way(route.Route(l, blocked, 3, 3)) }},
		{[]int{0, 1, 3, 4}, func() []int { return way(route.Tour(l, blocked, 0, 3, 0)) }},
		{[]int{0, 1, 3}, func() []int { return way(route.Tour(l, blocked, 0, 3, 3)) }},
		{[]int{4}, func() []int { return way(route.Tour(l, blocked, 3, 3, 0)) }},
	}
	for _, spoil := range ask {
		var kept [][]int
		for _, other := range ask {
			kept = append(kept, other.call())
		}
		answer := spoil.call()
		answer = answer[:cap(answer)]
		for i := range answer {
			answer[i] = -77
		}
		_ = append(answer, -78)
		// All that was answered is looked at ahead of asking again: an answer that shares memory would be written anew.
		for i, other := range ask {
			if !slices.Equal(kept[i], other.want) {
				t.Errorf("%d: %v; was %v", i, kept[i], other.want)
			}
		}
		for i, other := range ask {
			if got := other.call(); !slices.Equal(got, other.want) {
				t.Errorf("%d: %v; want %v", i, got, other.want)
			}
		}
		if !slices.Equal(l.Edges, yard().Edges) || !slices.Equal(blocked, []int{4}) {
			t.Errorf("what was handed in: %s, %v", told(l), blocked)
		}
	}
}
