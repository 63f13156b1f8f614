package layout_test

import (
	"math/rand"
	"slices"
	"testing"

	"humpyard/api"
	"humpyard/layout"
)

// Y4

// wantClosed: no edge leads out of what one comes to, but to what is blocked; and an edge leads to each of it, but to where one began, from another of it.
func wantClosed(t *testing.T, l api.Layout, blocked []int) {
	t.Helper()
	for from := range l.Nodes {
		reach := layout.Reach(l, blocked, from)
		if !slices.Contains(reach, from) || !slices.IsSorted(reach) || len(slices.Compact(slices.Clone(reach))) != len(reach) {
			t.Fatalf("Reach(%s, %v, %d): %v", told(l), blocked, from, reach)
		}
		led := []int{from}
		for _, e := range l.Edges {
			if !slices.Contains(reach, e.From) {
				continue
			}
			if !slices.Contains(reach, e.To) && !slices.Contains(blocked, e.To) {
				t.Fatalf("Reach(%s, %v, %d): %v; an edge leads to %d", told(l), blocked, from, reach, e.To)
			}
			led = append(led, e.To)
		}
		for _, to := range reach {
			if !slices.Contains(led, to) || to != from && slices.Contains(blocked, to) {
				t.Fatalf("Reach(%s, %v, %d): %v; there is no way to %d", told(l), blocked, from, reach, to)
			}
		}
	}
}

// wantNoMore: more that is blocked makes no more of what one comes to.
func wantNoMore(t *testing.T, l api.Layout, blocked, more []int) {
	t.Helper()
	for from := range l.Nodes {
		reach := layout.Reach(l, blocked, from)
		for _, to := range layout.Reach(l, slices.Concat(more, blocked), from) {
			if !slices.Contains(reach, to) {
				t.Fatalf("in %s with %v blocked %d comes to %d, and without %v it does not", told(l), blocked, from, to, more)
			}
		}
	}
}

// wantThroughNought: Strong is so just if one comes from node 0 to all, and from all to node 0.
func wantThroughNought(t *testing.T, l api.Layout) {
	t.Helper()
	want := len(layout.Reach(l, nil, 0)) == l.Nodes
	for from := range l.Nodes {
		want = want && slices.Contains(layout.Reach(l, nil, from), 0)
	}
	wantStrong(t, l, want)
}

func TestTheoremEachSmall(t *testing.T) {
	for count := 1; count <= 4; count++ {
		eachLayout(count, func(l api.Layout) {
			wantThroughNought(t, l)
			for bits := range 1 << count {
				blocked := set(bits)
				wantClosed(t, l, blocked)
				wantNoMore(t, l, blocked, []int{bits % count})
			}
		})
	}
}

func TestTheoremByChance(t *testing.T) {
	chance := rand.New(rand.NewSource(4))
	for range 600 {
		l := anyLayout(chance, chance.Intn(40)+1)
		wantThroughNought(t, l)
		var blocked, more []int
		for range chance.Intn(l.Nodes/3 + 1) {
			blocked = append(blocked, chance.Intn(l.Nodes+2)-1)
			more = append(more, chance.Intn(l.Nodes+2)-1)
		}
		wantClosed(t, l, nil)
		wantClosed(t, l, blocked)
		wantNoMore(t, l, nil, blocked)
		wantNoMore(t, l, blocked, more)
	}
}

func TestTheoremRight(t *testing.T) {
	for _, l := range rightLayouts() {
		wantThroughNought(t, l)
		for _, blocked := range [][]int{nil, {0}, {1}, {l.Nodes - 1}, {-1, 40}} {
			wantClosed(t, l, blocked)
			wantNoMore(t, l, blocked, []int{0, 2})
		}
	}
}
