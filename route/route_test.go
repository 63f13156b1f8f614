package route_test

import (
	"math"
	"math/rand"
	"slices"
	"testing"

	"humpyard/api"
	"humpyard/route"
)

func wantRoute(t *testing.T, l api.Layout, blocked []int, from, to int, want []int, errno api.Errno) {
	t.Helper()
	if got, e := route.Route(l, blocked, from, to); !slices.Equal(got, want) || e != errno {
		t.Fatalf("Route(%s, %v, %d, %d): %v, %d; want %v, %d", told(l), blocked, from, to, got, e, want, errno)
	}
}

// wantRoutes: Route between all nodes, and from and to numbers that are none.
func wantRoutes(t *testing.T, l api.Layout, blocked []int) {
	t.Helper()
	for to := range l.Nodes {
		ways := best(l, blocked, to)
		for from := range l.Nodes {
			if w, is := ways[from]; is {
				wantRoute(t, l, blocked, from, to, w.edges, api.OK)
			} else {
				wantRoute(t, l, blocked, from, to, nil, api.ErrRoute)
			}
		}
	}
	for _, n := range wrongNodes(l.Nodes) {
		for _, m := range []int{0, l.Nodes - 1, n, -1, l.Nodes} {
			wantRoute(t, l, blocked, n, m, nil, api.ErrArg)
			wantRoute(t, l, blocked, m, n, nil, api.ErrArg)
		}
	}
}

// U2

func TestExample(t *testing.T) {
	l := of(3, edge(0, 1, 1), edge(1, 2, 1), edge(0, 2, 2))
	wantRoute(t, l, nil, 0, 2, []int{0, 1}, api.OK)
	wantFar(t, l, nil, 2, []int{2, 1, 0})
}

func TestRoute(t *testing.T) {
	l := yard()
	for _, x := range []struct {
		blocked  []int
		from, to int
		want     []int
		errno    api.Errno
	}{
		{nil, 0, 1, []int{0}, api.OK}, {nil, 0, 2, []int{0, 1}, api.OK}, {nil, 0, 3, []int{0, 1, 3}, api.OK}, {nil, 1, 3, []int{1, 3}, api.OK},
		{nil, 2, 1, []int{3, 4, 0}, api.OK}, {nil, 3, 2, []int{4, 0, 1}, api.OK}, {nil, 4, 3, []int{6, 0, 1, 3}, api.OK},
		// from a node to itself, blocked or not
		{nil, 0, 0, nil, api.OK}, {nil, 4, 4, nil, api.OK}, {[]int{2}, 2, 2, nil, api.OK}, {[]int{0, 1, 2, 3, 4}, 3, 3, nil, api.OK},
		// past what is blocked
		{[]int{1}, 0, 2, []int{2}, api.OK}, {[]int{1}, 0, 3, []int{2, 3}, api.OK}, {[]int{2}, 0, 3, []int{0, 5}, api.OK}, {[]int{1}, 4, 3, []int{6, 2, 3}, api.OK},
		// from what is blocked
		{[]int{1}, 1, 3, []int{1, 3}, api.OK}, {[]int{1, 2}, 1, 3, []int{5}, api.OK}, {[]int{0}, 0, 2, []int{0, 1}, api.OK}, {[]int{4}, 4, 0, []int{6}, api.OK}, {[]int{0, 1}, 0, 2, []int{2}, api.OK},
		// no way: to what is blocked, past what is, and none at all
		{[]int{2}, 0, 2, nil, api.ErrRoute}, {[]int{1}, 0, 1, nil, api.ErrRoute}, {[]int{0, 1}, 0, 1, nil, api.ErrRoute}, {[]int{1, 2}, 0, 3, nil, api.ErrRoute}, {[]int{0}, 4, 1, nil, api.ErrRoute}, {[]int{3}, 2, 0, nil, api.ErrRoute},
		{nil, 0, 4, nil, api.ErrRoute}, {nil, 3, 4, nil, api.ErrRoute}, {[]int{4}, 0, 4, nil, api.ErrRoute},
		// no nodes, whether there would be a way or not
		{nil, 0, 5, nil, api.ErrArg}, {nil, 5, 0, nil, api.ErrArg}, {nil, -1, 0, nil, api.ErrArg}, {nil, 0, -1, nil, api.ErrArg}, {nil, 5, 5, nil, api.ErrArg}, {nil, -1, -1, nil, api.ErrArg}, {nil, 5, 4, nil, api.ErrArg}, {[]int{0}, -1, 0, nil, api.ErrArg}, {[]int{5}, 5, 5, nil, api.ErrArg},
		{nil, math.MaxInt, 0, nil, api.ErrArg}, {nil, 0, math.MinInt, nil, api.ErrArg},
	} {
		wantRoute(t, l, x.blocked, x.from, x.to, x.want, x.errno)
	}
}

// TestLeast: of ways that cost as little as one another the first edge in which two are unlike tells, whatever the others are, and however many.
func TestLeast(t *testing.T) {
	wantRoute(t, fork(), nil, 0, 3, []int{0, 3}, api.OK)
	// one edge, or two of them
	wantRoute(t, of(3, edge(0, 2, 2), edge(0, 1, 1), edge(1, 2, 1)), nil, 0, 2, []int{0}, api.OK)
	wantRoute(t, of(3, edge(1, 2, 1), edge(0, 2, 2), edge(0, 1, 1)), nil, 0, 2, []int{1}, api.OK)
	wantRoute(t, of(3, edge(0, 1, 1), edge(0, 2, 2), edge(1, 2, 1)), nil, 0, 2, []int{0, 2}, api.OK)
	wantRoute(t, of(3, edge(1, 2, 1), edge(0, 1, 1), edge(0, 2, 2)), nil, 0, 2, []int{1, 0}, api.OK)
	// three edges, the first one the least, or two that are less behind
	wantRoute(t, of(5, edge(0, 1, 1), edge(0, 3, 2), edge(3, 4, 1), edge(1, 2, 1), edge(2, 4, 1)), nil, 0, 4, []int{0, 3, 4}, api.OK)
	wantRoute(t, of(5, edge(0, 3, 2), edge(0, 1, 1), edge(1, 2, 1), edge(2, 4, 1), edge(3, 4, 1)), nil, 0, 4, []int{0, 4}, api.OK)
	// they are unlike behind an edge that both begin with
	both := of(5, edge(3, 4, 1), edge(2, 4, 1), edge(1, 2, 1), edge(1, 3, 1), edge(0, 1, 1))
	wantRoute(t, both, nil, 0, 4, []int{4, 2, 1}, api.OK)
	wantRoute(t, both, []int{2}, 0, 4, []int{4, 3, 0}, api.OK)
	// the least edge costs too much
	wantRoute(t, of(3, edge(0, 2, 3), edge(1, 2, 1), edge(0, 1, 1)), nil, 0, 2, []int{2, 1}, api.OK)
	// the least edge leads where there is no way on, or to what is blocked
	wantRoute(t, of(3, edge(0, 2, 6), edge(0, 1, 5)), nil, 0, 1, []int{1}, api.OK)
	wantRoute(t, of(3, edge(0, 2, 1), edge(0, 1, 2), edge(2, 1, 1)), []int{2}, 0, 1, []int{1}, api.OK)
	wantRoute(t, fork(), []int{1}, 0, 3, []int{1, 2}, api.OK)
}

// TestLeastOfMany: a grid has 252 ways from corner to corner, each of cost 10; where they stand tells which one comes.
func TestLeastOfMany(t *testing.T) {
	l := grid(6)
	// to the right first: the edges out of a node stand to the right, down
	wantRoute(t, l, nil, 0, 35, []int{0, 2, 4, 6, 8, 10, 21, 32, 43, 54}, api.OK)
	slices.Reverse(l.Edges)
	wantRoute(t, l, nil, 0, 35, []int{58, 47, 36, 25, 14, 4, 3, 2, 1, 0}, api.OK)
	chance := rand.New(rand.NewSource(2))
	for range 300 {
		l = mixed(chance, l)
		wantRoute(t, l, nil, 0, 35, best(l, nil, 35)[0].edges, api.OK)
		blocked := anyNumbers(chance, l, 6)
		if w, is := best(l, blocked, 35)[0]; is {
			wantRoute(t, l, blocked, 0, 35, w.edges, api.OK)
		} else {
			wantRoute(t, l, blocked, 0, 35, nil, api.ErrRoute)
		}
	}
}

// TestMost: as many nodes and edges as there may be, each edge of the greatest cost.
func TestMost(t *testing.T) {
	l := jumps()
	wantRoute(t, l, nil, 1, 0, []int{81, 84, 87, 90, 93, 96, 99, 102, 105, 108, 111, 114, 117}, api.OK)
	// one jump is by two nodes, or two are by one less: the least edges first
	wantRoute(t, l, nil, 2, 0, []int{42, 84, 87, 90, 93, 96, 99, 102, 105, 108, 111, 114, 117}, api.OK)
	wantRoute(t, l, nil, 3, 0, []int{3, 84, 87, 90, 93, 96, 99, 102, 105, 108, 111, 114, 117}, api.OK)
	wantRoute(t, l, []int{4}, 3, 0, []int{43, 45, 87, 90, 93, 96, 99, 102, 105, 108, 111, 114, 117}, api.OK)
	wantRoute(t, l, []int{7, 8, 9}, 3, 0, nil, api.ErrRoute)
	wantRoutes(t, l, nil)
	wantRoute(t, chain(), nil, 0, 39, span(0, 38), api.OK)
	wantRoute(t, chain(), nil, 39, 38, append([]int{93}, span(2, 37)...), api.OK)
	wantRoutes(t, chain(), nil)
	for n := 1; n < 39; n++ {
		wantRoute(t, chain(), []int{n}, 0, 39, nil, api.ErrRoute)
		wantRoute(t, chain(), []int{n}, n, 39, span(n, 38), api.OK)
	}
	// The other way costs one more, or as much, and then its least edge tells.
	for cost, want := range map[int][]int{1: {0, 1, 2}, 2: {0, 1, 2}, 3: {0, 1, 2}, 4: {3}} {
		wantRoute(t, of(40, edge(39, 20, cost), edge(20, 0, 1), edge(0, 7, 1), edge(39, 7, 5)), nil, 39, 7, want, api.OK)
	}
}

func TestOneNode(t *testing.T) {
	for _, l := range []api.Layout{of(1), {Nodes: 1, Edges: []api.Edge{}}} {
		for _, blocked := range [][]int{nil, {}, {0}, {0, 0}, {1}, {-1}} {
			wantRoute(t, l, blocked, 0, 0, nil, api.OK)
			wantRoutes(t, l, blocked)
		}
	}
	wantRoutes(t, of(2), nil)
	wantRoutes(t, of(40), []int{3})
}

// TestBlocked: numbers that are no nodes block nothing, and one that stands there twice blocks as one that stands there once.
func TestBlocked(t *testing.T) {
	l := yard()
	wantRoute(t, l, []int{1, 1}, 0, 2, []int{2}, api.OK)
	wantRoute(t, l, []int{2, 1, 2, 1, 2}, 0, 3, nil, api.ErrRoute)
	wantRoute(t, l, []int{0, 0}, 0, 2, []int{0, 1}, api.OK)
	wantRoute(t, l, slices.Concat(wrongNodes(5), []int{1}, wrongNodes(5)), 0, 2, []int{2}, api.OK)
	for _, n := range wrongNodes(5) {
		wantRoute(t, l, []int{n}, 0, 2, []int{0, 1}, api.OK)
		wantRoute(t, l, []int{n, 1, n}, 0, 2, []int{2}, api.OK)
	}
	// An edge as an element (its number and 1000), or a node of a greater layout, is no node.
	wantRoute(t, l, []int{1000, 1001, 1003, 5, 39}, 0, 3, []int{0, 1, 3}, api.OK)
	// A great many, of which one is a node.
	many := make([]int, 1_000_000)
	for i := range many {
		many[i] = 5 + i
	}
	many[777_777] = 1
	for range 100 {
		wantRoute(t, l, many, 0, 2, []int{2}, api.OK)
	}
}

// TestEachOfThree: each layout of three nodes whose edges cost 1 to 3, whatever is blocked; all ways are looked at.
func TestEachOfThree(t *testing.T) {
	places := []api.Edge{edge(0, 1, 0), edge(1, 2, 0), edge(0, 2, 0), edge(2, 1, 0), edge(1, 0, 0), edge(2, 0, 0)}
	for code := range 1 << 12 {
		l := of(3)
		for i, e := range places {
			if e.Cost = code >> (2 * i) & 3; e.Cost > 0 {
				l.Edges = append(l.Edges, e)
			}
		}
		for bits := range 8 {
			wantBest(t, l, set(bits))
		}
		slices.Reverse(l.Edges)
		wantBest(t, l, set(code%8))
	}
}

// wantBest: Route between all nodes is the best one of all ways that come to no node twice. It tells for how many nodes several ways cost as little.
func wantBest(t *testing.T, l api.Layout, blocked []int) int {
	t.Helper()
	several := 0
	for from := range l.Nodes {
		for to := range l.Nodes {
			errno, first, same := api.ErrRoute, way{}, 0
			eachWay(l, blocked, from, to, func(w way) {
				switch {
				case errno == api.ErrRoute || w.cost < first.cost:
					same = 1
				case w.cost == first.cost:
					same++
				}
				if errno == api.ErrRoute || comesFirst(w, first) {
					errno, first = api.OK, w
				}
			})
			if same > 1 {
				several++
			}
			wantRoute(t, l, blocked, from, to, first.edges, errno)
		}
	}
	return several
}

// TestSmallByChance: layouts of up to six nodes, with small costs, so that ways cost as much as one another; all ways are looked at.
func TestSmallByChance(t *testing.T) {
	chance := rand.New(rand.NewSource(3))
	several := 0
	for range 1500 {
		l := anyLayout(chance, chance.Intn(6)+1, chance.Intn(4)+1)
		several += wantBest(t, l, nil)
		several += wantBest(t, l, anyNumbers(chance, l, 3))
	}
	if several < 1000 {
		t.Errorf("several ways cost as little as one another %d times", several)
	}
}

func TestRouteByChance(t *testing.T) {
	chance := rand.New(rand.NewSource(4))
	for i := range 250 {
		l := anyLayout(chance, chance.Intn(40)+1, []int{1, 3, 10, 1000}[i%4])
		wantRoutes(t, l, nil)
		wantRoutes(t, l, anyNumbers(chance, l, l.Nodes/3))
		wantRoutes(t, l, anyNumbers(chance, l, l.Nodes))
	}
}

func TestRouteEach(t *testing.T) {
	for _, l := range rightLayouts() {
		for _, blocked := range [][]int{nil, {0}, {1}, {0, 1}, {l.Nodes - 1}, {l.Nodes}, span(0, l.Nodes), span(1, 40)} {
			wantRoutes(t, l, blocked)
		}
	}
}

// TestRouteWrong: of a layout that is not right there is ErrArg, wherever it is wrong, from a node to itself too.
func TestRouteWrong(t *testing.T) {
	for _, l := range wrongLayouts() {
		for _, blocked := range [][]int{nil, {0}, {-1, 40}} {
			for _, from := range []int{-1, 0, 1, 2, 39, 40, l.Nodes - 1, l.Nodes} {
				for _, to := range []int{-1, 0, 1, 2, from} {
					wantRoute(t, l, blocked, from, to, nil, api.ErrArg)
				}
			}
		}
	}
}
