package layout_test

import (
	"slices"
	"testing"

	"humpyard/api"
	"humpyard/layout"
)

// roomy is a list in memory of its own, with room behind it, in which there is something.
func roomy[T any](list []T, behind T) []T {
	return append(slices.Clone(list), behind, behind, behind)[:len(list)]
}

// callAll makes each call.
func callAll(l api.Layout, blocked []int) {
	layout.Right(l)
	layout.Strong(l)
	for _, node := range []int{-1, 0, 1, 2, 39, 40} {
		layout.Out(l, node)
		layout.Reach(l, blocked, node)
		for _, to := range []int{-1, 0, 1, 2, 39, 40} {
			layout.Between(l, node, to)
		}
	}
}

// TestHandedInStays: no call writes into what is handed in, nor behind its length.
func TestHandedInStays(t *testing.T) {
	for _, l := range append(rightLayouts(), wrongLayouts()...) {
		for _, blocked := range [][]int{nil, {}, {2, 0, 2}, {39, -1, 40, 1}} {
			given := api.Layout{Nodes: l.Nodes, Edges: roomy(l.Edges, edge(1, 0, 7))}
			shut := roomy(blocked, 1)
			edges, numbers := slices.Clone(given.Edges[:cap(given.Edges)]), slices.Clone(shut[:cap(shut)])
			callAll(given, shut)
			if !slices.Equal(given.Edges[:cap(given.Edges)], edges) || !slices.Equal(shut[:cap(shut)], numbers) {
				t.Fatalf("%s, or %v blocked, was written into", told(l), blocked)
			}
		}
	}
}

// TestBehindIsNotThere: what stands behind a list's length is not there.
func TestBehindIsNotThere(t *testing.T) {
	l := api.Layout{Nodes: 3, Edges: roomy(line(3).Edges, edge(2, 0, 1))}
	wantRight(t, l, true)
	wantStrong(t, l, false)
	wantOut(t, l, 2)
	wantBetween(t, l, 2, 0)
	wantReach(t, l, nil, 2, []int{2})
	wantReach(t, l, roomy([]int{0}, 1), 0, []int{0, 1, 2})
	l.Edges = roomy(line(3).Edges, edge(9, 9, 0))
	wantRight(t, l, true)
	wantReach(t, l, nil, 0, []int{0, 1, 2})
}

// TestNothingIsKept: a call answers of what it is handed in alone, whatever stood there ahead.
func TestNothingIsKept(t *testing.T) {
	l := ring(3)
	blocked := []int{2}
	wantReach(t, l, blocked, 0, []int{0, 1})
	wantStrong(t, l, true)
	blocked[0] = 1
	wantReach(t, l, blocked, 0, []int{0})
	l.Edges[2] = edge(1, 0, 1)
	wantStrong(t, l, false)
	wantReach(t, l, nil, 2, []int{2})
	wantBetween(t, l, 2, 0)
	wantBetween(t, l, 1, 0)
	l.Edges[0].Cost = 0
	wantRight(t, l, false)
	wantReach(t, l, nil, 0, nil)
	wantOut(t, l, 1)
	l.Edges[0].Cost = 1
	wantRight(t, l, true)
	wantReach(t, l, nil, 0, []int{0, 1, 2})
}

// TestAnswersAreOwn: whoever writes into an answer, and into the room behind it, changes neither what was handed in, nor another answer.
func TestAnswersAreOwn(t *testing.T) {
	l, blocked := yard(), []int{0, 4}
	ask := []struct {
		want []int
		call func() []int
	}{
		{[]int{1, 3}, func() []int { return layout.Out(l, 1) }},
		{[]int{0}, func() []int { return layout.Out(l, 0) }},
		{[]int{0, 1, 2, 3}, func() []int { return layout.Reach(l, blocked, 0) }},
		{[]int{1, 2, 3}, func() []int { return layout.Reach(l, blocked, 1) }},
	}
	for _, spoil := range ask {
		var kept [][]int
		for _, other := range ask {
			kept = append(kept, other.call())
		}
		answer := spoil.call()
		answer = answer[:cap(answer)]
		for i := range answer {
			answer[i] = -77
		}
		_ = append(answer, -78)
		// All that was answered is looked at ahead of asking again: an answer that shares memory would be written anew.
		for i, other := range ask {
			if !slices.Equal(kept[i], other.want) {
				t.Errorf("%d: %v; was %v", i, kept[i], other.want)
			}
		}
		for i, other := range ask {
			if got := other.call(); !slices.Equal(got, other.want) {
				t.Errorf("%d: %v; want %v", i, got, other.want)
			}
		}
		if !slices.Equal(l.Edges, yard().Edges) || !slices.Equal(blocked, []int{0, 4}) {
			t.Errorf("what was handed in: %s, %v", told(l), blocked)
		}
	}
}
