package route_test

import (
	"math/rand"
	"slices"
	"testing"

	"humpyard/api"
	"humpyard/layout"
	"humpyard/route"
)

// U4

// wantWay: edges are a way from a node to another one, past what is blocked.
func wantWay(t *testing.T, l api.Layout, blocked, edges []int, from, to int) {
	t.Helper()
	at := from
	for _, n := range edges {
		if n < 0 || n >= len(l.Edges) || l.Edges[n].From != at || slices.Contains(blocked, l.Edges[n].To) {
			t.Fatalf("in %s with %v blocked %v is no way from %d to %d", told(l), blocked, edges, from, to)
		}
		at = l.Edges[n].To
	}
	if at != to {
		t.Fatalf("in %s with %v blocked %v leads from %d to %d, not to %d", told(l), blocked, edges, from, at, to)
	}
}

// wantCheapest: Route is a way, which costs as Far tells, and over each edge that may be gone it costs no more than that edge more; there is one just where chapter 11 comes to the node.
func wantCheapest(t *testing.T, l api.Layout, blocked []int, to int) {
	t.Helper()
	far := route.Far(l, blocked, to)
	if len(far) != l.Nodes || far[to] != 0 {
		t.Fatalf("Far(%s, %v, %d): %v", told(l), blocked, to, far)
	}
	for _, e := range l.Edges {
		if !slices.Contains(blocked, e.To) && far[e.To] >= 0 && (far[e.From] < 0 || far[e.From] > far[e.To]+e.Cost) {
			t.Fatalf("Far(%s, %v, %d): %v; from %d it is cheaper over %d", told(l), blocked, to, far, e.From, e.To)
		}
	}
	for from := range l.Nodes {
		edges, errno := route.Route(l, blocked, from, to)
		is := slices.Contains(layout.Reach(l, blocked, from), to)
		if is != (errno == api.OK) || is != (far[from] >= 0) || !is && (errno != api.ErrRoute || len(edges) > 0 || far[from] != -1) {
			t.Fatalf("in %s with %v blocked, from %d to %d: %v, %d, and Far tells %d", told(l), blocked, from, to, edges, errno, far[from])
		}
		if !is {
			continue
		}
		wantWay(t, l, blocked, edges, from, to)
		wantCost(t, l, edges, far[from])
		// What is left of it behind each edge is the Route from there.
		for i, n := range edges {
			wantRoute(t, l, blocked, l.Edges[n].To, to, edges[i+1:], api.OK)
		}
	}
}

// wantNoCheaper: more that is blocked makes nothing cheaper.
func wantNoCheaper(t *testing.T, l api.Layout, blocked, more []int) {
	t.Helper()
	for to := range l.Nodes {
		few, many := route.Far(l, blocked, to), route.Far(l, slices.Concat(more, blocked), to)
		for from := range l.Nodes {
			if many[from] >= 0 && (few[from] < 0 || few[from] > many[from]) {
				t.Fatalf("in %s with %v blocked it costs %d from %d to %d, and with %v more it costs %d", told(l), blocked, few[from], from, to, more, many[from])
			}
		}
	}
}

func TestTheoremByChance(t *testing.T) {
	chance := rand.New(rand.NewSource(6))
	for i := range 400 {
		l := anyLayout(chance, chance.Intn(40)+1, []int{1, 4, 1000}[i%3])
		blocked, more := anyNumbers(chance, l, l.Nodes/3), anyNumbers(chance, l, l.Nodes/3)
		for range 4 {
			wantCheapest(t, l, nil, chance.Intn(l.Nodes))
			wantCheapest(t, l, blocked, chance.Intn(l.Nodes))
		}
		wantNoCheaper(t, l, nil, blocked)
		wantNoCheaper(t, l, blocked, more)
	}
}

func TestTheoremRight(t *testing.T) {
	for _, l := range rightLayouts() {
		for _, blocked := range [][]int{nil, {0}, {1}, {l.Nodes - 1}, {-1, 40}} {
			for to := range l.Nodes {
				wantCheapest(t, l, blocked, to)
			}
			wantNoCheaper(t, l, blocked, []int{0, 2})
		}
	}
}

// TestTheoremSmall: layouts of four nodes, whatever is blocked.
func TestTheoremSmall(t *testing.T) {
	chance := rand.New(rand.NewSource(7))
	for range 400 {
		l := anyLayout(chance, 4, 3)
		for bits := range 16 {
			for to := range 4 {
				wantCheapest(t, l, set(bits), to)
			}
			wantNoCheaper(t, l, set(bits), []int{bits % 4})
		}
	}
}
