package route_test

import (
	"math"
	"math/rand"
	"slices"
	"testing"

	"humpyard/api"
	"humpyard/route"
)

func wantFar(t *testing.T, l api.Layout, blocked []int, to int, want []int) {
	t.Helper()
	if got := route.Far(l, blocked, to); !slices.Equal(got, want) {
		t.Fatalf("Far(%s, %v, %d): %v; want %v", told(l), blocked, to, got, want)
	}
}

// wantFars: Far to all nodes, and to numbers that are none.
func wantFars(t *testing.T, l api.Layout, blocked []int) {
	t.Helper()
	for to := range l.Nodes {
		ways := best(l, blocked, to)
		var want []int
		for from := range l.Nodes {
			if w, is := ways[from]; is {
				want = append(want, w.cost)
			} else {
				want = append(want, -1)
			}
		}
		wantFar(t, l, blocked, to, want)
	}
	for _, to := range wrongNodes(l.Nodes) {
		wantFar(t, l, blocked, to, nil)
	}
}

func wantCost(t *testing.T, l api.Layout, edges []int, want int) {
	t.Helper()
	if got := route.Cost(l, edges); got != want {
		t.Fatalf("Cost(%s, %v): %d; want %d", told(l), edges[:min(len(edges), 50)], got, want)
	}
}

// U1

func TestFar(t *testing.T) {
	l := yard()
	for _, x := range []struct {
		blocked []int
		to      int
		want    []int
	}{
		{nil, 0, []int{0, 6, 5, 1, 1}}, {nil, 1, []int{1, 0, 6, 2, 2}}, {nil, 2, []int{2, 1, 0, 3, 3}}, {nil, 3, []int{6, 5, 4, 0, 7}}, {[]int{}, 4, []int{-1, -1, -1, -1, 0}},
		// past what is blocked, and from there
		{[]int{1}, 2, []int{2, 1, 0, 3, 3}}, {[]int{2}, 3, []int{7, 6, 4, 0, 8}}, {[]int{0}, 1, []int{1, 0, -1, -1, -1}}, {[]int{3}, 0, []int{0, -1, -1, 1, 1}}, {[]int{1, 2}, 3, []int{-1, 6, 4, 0, -1}}, {[]int{4}, 0, []int{0, 6, 5, 1, 1}},
		// to what is blocked
		{[]int{0}, 0, []int{0, -1, -1, -1, -1}}, {[]int{3}, 3, []int{-1, -1, -1, 0, -1}}, {[]int{4}, 4, []int{-1, -1, -1, -1, 0}}, {[]int{0, 1, 2, 3, 4}, 2, []int{-1, -1, 0, -1, -1}},
		// no nodes
		{nil, 5, nil}, {nil, -1, nil}, {[]int{5}, 5, nil}, {[]int{-1}, -1, nil}, {nil, math.MaxInt, nil}, {nil, math.MinInt, nil},
	} {
		wantFar(t, l, x.blocked, x.to, x.want)
	}
}

// TestFarBlocked: numbers that are no nodes block nothing, and one that stands there twice blocks as one that stands there once.
func TestFarBlocked(t *testing.T) {
	l := yard()
	wantFar(t, l, []int{2, 2}, 3, []int{7, 6, 4, 0, 8})
	wantFar(t, l, []int{1, 2, 1, 2, 1}, 3, []int{-1, 6, 4, 0, -1})
	wantFar(t, l, slices.Concat(wrongNodes(5), []int{2}, wrongNodes(5)), 3, []int{7, 6, 4, 0, 8})
	for _, n := range wrongNodes(5) {
		wantFar(t, l, []int{n}, 3, []int{6, 5, 4, 0, 7})
		wantFar(t, l, []int{n, 2, n}, 3, []int{7, 6, 4, 0, 8})
	}
	// A great many, of which one is a node.
	many := make([]int, 1_000_000)
	for i := range many {
		many[i] = 5 + i
	}
	many[777_777] = 2
	for range 100 {
		wantFar(t, l, many, 3, []int{7, 6, 4, 0, 8})
	}
}

func TestFarOneNode(t *testing.T) {
	for _, l := range []api.Layout{of(1), {Nodes: 1, Edges: []api.Edge{}}} {
		for _, blocked := range [][]int{nil, {}, {0}, {0, 0}, {1}, {-1}} {
			wantFar(t, l, blocked, 0, []int{0})
			wantFars(t, l, blocked)
		}
	}
}

// TestFarMost: as many nodes and edges as there may be, each edge of the greatest cost.
func TestFarMost(t *testing.T) {
	var three, up, back []int
	for n := range 40 {
		three = append(three, (40-n+2)/3*1000)
		up = append(up, (39-n)*1000)
		back = append(back, (40-n)*1000)
	}
	three[0], back[0] = 0, 0
	wantFar(t, jumps(), nil, 0, three)
	wantFar(t, chain(), nil, 39, up)
	wantFar(t, ring(40, 1000), nil, 0, back)
	for n := range up[:39] {
		shut := slices.Concat(slices.Repeat([]int{-1}, n), up[n:])
		wantFar(t, chain(), []int{n}, 39, shut)
	}
}

func TestFarEach(t *testing.T) {
	for _, l := range rightLayouts() {
		for _, blocked := range [][]int{nil, {0}, {1}, {0, 1}, {l.Nodes - 1}, {l.Nodes}, span(0, l.Nodes), span(1, 40)} {
			wantFars(t, l, blocked)
		}
	}
}

func TestFarByChance(t *testing.T) {
	chance := rand.New(rand.NewSource(1))
	for i := range 400 {
		l := anyLayout(chance, chance.Intn(40)+1, []int{3, 1000}[i%2])
		wantFars(t, l, nil)
		wantFars(t, l, anyNumbers(chance, l, l.Nodes/3))
		wantFars(t, l, anyNumbers(chance, l, l.Nodes))
	}
}

// TestFarWrong: of a layout that is not right there is nothing, wherever it is wrong.
func TestFarWrong(t *testing.T) {
	for _, l := range wrongLayouts() {
		for _, blocked := range [][]int{nil, {0}, {-1, 40}} {
			for _, to := range []int{-1, 0, 1, 2, 39, 40, l.Nodes - 1, l.Nodes} {
				wantFar(t, l, blocked, to, nil)
			}
		}
	}
}

func TestCost(t *testing.T) {
	l := of(4, edge(0, 1, 1), edge(1, 2, 20), edge(2, 3, 300), edge(3, 0, 1000))
	for _, x := range []struct {
		edges []int
		want  int
	}{
		{nil, 0}, {[]int{}, 0}, {[]int{0}, 1}, {[]int{3}, 1000}, {[]int{0, 1, 2, 3}, 1321},
		// no way, in any order
		{[]int{2, 0}, 301}, {[]int{3, 1}, 1020},
		// twice and more often: each time
		{[]int{1, 1}, 40}, {[]int{0, 2, 0, 2, 0}, 603}, {[]int{3, 3, 3, 3}, 4000},
		// no edges
		{[]int{4}, 0}, {[]int{-1}, 0}, {[]int{4, 0, -1, 1, 99}, 21}, {[]int{1000, 1001}, 0},
	} {
		wantCost(t, l, x.edges, x.want)
	}
}

// TestCostNoEdges: numbers that are no edges are left out, wherever they stand.
func TestCostNoEdges(t *testing.T) {
	for _, l := range rightLayouts() {
		all := 0
		for i, e := range l.Edges {
			all += e.Cost
			wantCost(t, l, []int{i}, e.Cost)
			wantCost(t, l, []int{i, i}, 2*e.Cost)
		}
		edges := span(0, len(l.Edges)-1)
		wantCost(t, l, edges, all)
		numbers := []int{-1, -2, -120, math.MinInt, math.MinInt + 1, len(l.Edges), len(l.Edges) + 1, 120, 1000, 1 << 32, 1<<32 + len(l.Edges) - 1, math.MaxInt}
		wantCost(t, l, numbers, 0)
		wantCost(t, l, slices.Concat(numbers, edges, numbers, edges), 2*all)
		for _, n := range numbers {
			wantCost(t, l, []int{n}, 0)
			wantCost(t, l, append([]int{n}, edges...), all)
		}
	}
	wantCost(t, of(1), span(-5, 5), 0)
	// A great many: no sum is too great.
	many := make([]int, 5_000_000)
	for i := range many {
		many[i] = i % 121
	}
	wantCost(t, jumps(), many, (5_000_000-5_000_000/121)*1000)
}

// TestCostOfAny: an edge is its place among a layout's edges, and costs what stands there, whether the layout is right or not.
func TestCostOfAny(t *testing.T) {
	for _, l := range []api.Layout{of(0, edge(0, 1, 5), edge(1, 0, 7)), of(41, edge(0, 1, 5), edge(1, 0, 7)), of(1, edge(9, 9, 5), edge(9, 9, 7))} {
		wantCost(t, l, []int{0, 1, 1, 2, -1}, 19)
	}
	wantCost(t, of(2, edge(0, 1, 0), edge(1, 0, -4), edge(0, 1, 1001)), []int{0, 1, 2}, 997)
	wantCost(t, api.Layout{}, []int{0, 1, -1}, 0)
}
