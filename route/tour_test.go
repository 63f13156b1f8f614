package route_test

import (
	"math/rand"
	"slices"
	"testing"

	"humpyard/api"
	"humpyard/route"
)

func wantTour(t *testing.T, l api.Layout, blocked []int, from, target, home int, want []int, errno api.Errno) {
	t.Helper()
	if got, e := route.Tour(l, blocked, from, target, home); !slices.Equal(got, want) || e != errno {
		t.Fatalf("Tour(%s, %v, %d, %d, %d): %v, %d; want %v, %d", told(l), blocked, from, target, home, got, e, want, errno)
	}
}

// wantBoth: Tour is the best way to the target, and behind it the best one home.
func wantBoth(t *testing.T, l api.Layout, blocked []int, from, target, home int) {
	t.Helper()
	there, is := best(l, blocked, target)[from]
	back, also := best(l, blocked, home)[target]
	if is && also {
		wantTour(t, l, blocked, from, target, home, slices.Concat(there.edges, back.edges), api.OK)
	} else {
		wantTour(t, l, blocked, from, target, home, nil, api.ErrRoute)
	}
}

// U3

func TestTour(t *testing.T) {
	l := yard()
	for _, x := range []struct {
		blocked            []int
		from, target, home int
		want               []int
		errno              api.Errno
	}{
		// there and home; an edge may be gone twice
		{nil, 0, 3, 0, []int{0, 1, 3, 4}, api.OK}, {nil, 3, 2, 0, []int{4, 0, 1, 3, 4}, api.OK}, {nil, 4, 3, 1, []int{6, 0, 1, 3, 4, 0}, api.OK}, {nil, 1, 0, 3, []int{1, 3, 4, 0, 1, 3}, api.OK},
		{[]int{1}, 0, 3, 0, []int{2, 3, 4}, api.OK}, {[]int{2}, 0, 3, 1, []int{0, 5, 4, 0}, api.OK},
		// one begins at the target, or is at home there, or both
		{nil, 3, 3, 0, []int{4}, api.OK}, {nil, 0, 3, 3, []int{0, 1, 3}, api.OK}, {nil, 2, 2, 2, nil, api.OK}, {nil, 4, 4, 4, nil, api.OK},
		// what is blocked is left, and not come to
		{[]int{0}, 0, 2, 3, []int{0, 1, 3}, api.OK}, {[]int{0}, 0, 3, 0, nil, api.ErrRoute}, {[]int{3}, 3, 3, 0, []int{4}, api.OK}, {[]int{3}, 0, 3, 0, nil, api.ErrRoute}, {[]int{3}, 3, 3, 3, nil, api.OK}, {[]int{3}, 3, 3, 2, []int{4, 0, 1}, api.OK}, {[]int{0}, 4, 4, 0, nil, api.ErrRoute},
		// the first way is none, the second one, both
		{nil, 1, 4, 0, nil, api.ErrRoute}, {nil, 1, 3, 4, nil, api.ErrRoute}, {nil, 3, 3, 4, nil, api.ErrRoute}, {[]int{1, 2}, 0, 3, 0, nil, api.ErrRoute}, {[]int{0}, 1, 3, 1, nil, api.ErrRoute}, {[]int{1, 2, 3}, 0, 1, 4, nil, api.ErrRoute},
		// no nodes
		{nil, 5, 3, 0, nil, api.ErrArg}, {nil, 0, 5, 0, nil, api.ErrArg}, {nil, 0, 3, 5, nil, api.ErrArg}, {nil, -1, 3, 0, nil, api.ErrArg}, {nil, 0, -1, 0, nil, api.ErrArg}, {nil, 0, 3, -1, nil, api.ErrArg}, {nil, 5, 5, 5, nil, api.ErrArg}, {nil, 0, 0, 5, nil, api.ErrArg},
		// the first one's error comes first
		{nil, 0, 4, 5, nil, api.ErrRoute}, {nil, 0, 4, -1, nil, api.ErrRoute}, {[]int{3}, 0, 3, 9, nil, api.ErrRoute}, {nil, 5, 3, 4, nil, api.ErrArg}, {nil, -1, 2, 4, nil, api.ErrArg}, {nil, 5, 3, 5, nil, api.ErrArg},
	} {
		wantTour(t, l, x.blocked, x.from, x.target, x.home, x.want, x.errno)
	}
}

// TestTourRing: the document's ring, from home to the node ahead of it, and home.
func TestTourRing(t *testing.T) {
	l := of(4, edge(0, 1, 1), edge(1, 2, 1), edge(2, 0, 1), edge(3, 0, 1), edge(0, 3, 1))
	wantTour(t, l, nil, 3, 2, 3, []int{3, 0, 1, 2, 4}, api.OK)
	if cost := route.Cost(l, []int{3, 0, 1, 2, 4}); cost != 5 {
		t.Errorf("it costs %d", cost)
	}
	wantTour(t, chain(), nil, 0, 39, 0, append(span(0, 38), 39), api.OK)
	wantTour(t, chain(), nil, 0, 39, 38, slices.Concat(span(0, 38), []int{93}, span(2, 37)), api.OK)
	wantTour(t, of(1), []int{0}, 0, 0, 0, nil, api.OK)
}

func TestTourByChance(t *testing.T) {
	chance := rand.New(rand.NewSource(5))
	for i := range 1500 {
		l := anyLayout(chance, chance.Intn(40)+1, []int{1, 3, 1000}[i%3])
		blocked := anyNumbers(chance, l, []int{0, 2, l.Nodes}[chance.Intn(3)])
		for range 10 {
			wantBoth(t, l, blocked, chance.Intn(l.Nodes), chance.Intn(l.Nodes), chance.Intn(l.Nodes))
		}
	}
}

// TestTourEach: between all nodes of small layouts, and numbers that are none.
func TestTourEach(t *testing.T) {
	for _, l := range []api.Layout{of(1), of(2), ring(2, 1), ring(3, 2), yard(), fork(), grid(3)} {
		for _, blocked := range [][]int{nil, {0}, {1}, {1, 2}, {l.Nodes - 1}} {
			for code := range l.Nodes * l.Nodes * l.Nodes {
				wantBoth(t, l, blocked, code%l.Nodes, code/l.Nodes%l.Nodes, code/l.Nodes/l.Nodes)
			}
			for _, n := range wrongNodes(l.Nodes) {
				wantTour(t, l, blocked, n, 0, 0, nil, api.ErrArg)
				wantTour(t, l, blocked, 0, n, 0, nil, api.ErrArg)
				wantTour(t, l, blocked, 0, 0, n, nil, api.ErrArg)
			}
		}
	}
}

func TestTourWrong(t *testing.T) {
	for _, l := range wrongLayouts() {
		for _, blocked := range [][]int{nil, {0}, {-1, 40}} {
			for code := range 27 {
				wantTour(t, l, blocked, code%3, code/3%3, code/9, nil, api.ErrArg)
			}
		}
	}
}
