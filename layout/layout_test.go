package layout_test

import (
	"fmt"
	"math"
	"math/rand"
	"slices"
	"testing"

	"humpyard/api"
	"humpyard/layout"
)

// Layouts, as briefly as they can be said.

func edge(from, to, cost int) api.Edge { return api.Edge{From: from, To: to, Cost: cost} }

func of(count int, edges ...api.Edge) api.Layout { return api.Layout{Nodes: count, Edges: edges} }

// ring is a layout in which each node leads to the next one, the last one to the first one.
func ring(count int) api.Layout {
	l := of(count)
	for i := range count {
		l.Edges = append(l.Edges, edge(i, (i+1)%count, 1))
	}
	return l
}

// line is a ring without the edge from its last node.
func line(count int) api.Layout {
	l := ring(count)
	l.Edges = l.Edges[:count-1]
	return l
}

// crowd is a layout with so many edges, each from a node to another one, no two from one to one.
func crowd(count, edges int) api.Layout {
	l := of(count)
	for i := range edges {
		l.Edges = append(l.Edges, edge(i%count, (i+1+i/count)%count, i%1000+1))
	}
	return l
}

// yard is a layout that is not strong: a ring of three, from which one comes to two more, but not back.
func yard() api.Layout {
	return of(5, edge(0, 1, 1), edge(1, 2, 2), edge(2, 0, 3), edge(1, 3, 1), edge(3, 4, 1000), edge(4, 3, 1))
}

// with is l, in memory of its own, with a change.
func with(l api.Layout, change func(l *api.Layout)) api.Layout {
	l.Edges = slices.Clone(l.Edges)
	change(&l)
	return l
}

// told is a layout for a test's words.
func told(l api.Layout) string {
	s := fmt.Sprintf("%d nodes, %d edges: %v", l.Nodes, len(l.Edges), l.Edges)
	return s[:min(len(s), 300)]
}

// anyLayout is a right layout by chance.
func anyLayout(chance *rand.Rand, count int) api.Layout {
	l := of(count)
	var places []int
	for place := range count * count {
		if place/count != place%count {
			places = append(places, place)
		}
	}
	chance.Shuffle(len(places), func(i, j int) { places[i], places[j] = places[j], places[i] })
	most := min(len(places), 120, []int{2 * count, 3 * count, 120}[chance.Intn(3)])
	for _, place := range places[:chance.Intn(most+1)] {
		l.Edges = append(l.Edges, edge(place/count, place%count, chance.Intn(1000)+1))
	}
	return l
}

// What the chapter says of layouts, said anew.

// isRight is what Right must answer.
func isRight(l api.Layout) bool {
	if l.Nodes <= 0 || l.Nodes >= 41 || len(l.Edges) >= 121 {
		return false
	}
	ways := map[[2]int]int{}
	for _, e := range l.Edges {
		ways[[2]int{e.From, e.To}]++
		least, most := min(e.From, e.To), max(e.From, e.To)
		if least < 0 || most >= l.Nodes || least == most || e.Cost <= 0 || e.Cost >= 1001 || ways[[2]int{e.From, e.To}] > 1 {
			return false
		}
	}
	return true
}

// rightLayouts are right, each in its own way.
func rightLayouts() []api.Layout {
	out := []api.Layout{
		of(1), of(2), of(40), {Nodes: 1, Edges: []api.Edge{}},
		of(2, edge(0, 1, 1)), of(2, edge(1, 0, 1000)),
		// two edges between two nodes, one each way
		of(2, edge(0, 1, 1), edge(1, 0, 1)), of(2, edge(1, 0, 5), edge(0, 1, 6)), of(40, edge(39, 0, 1000), edge(0, 39, 1)),
		// two edges from one node, and two to one
		of(3, edge(0, 1, 1), edge(0, 2, 1)), of(3, edge(0, 2, 1), edge(1, 2, 1)),
		ring(2), ring(3), ring(39), ring(40), line(2), line(3), line(40), yard(),
		crowd(12, 119), crowd(12, 120), crowd(40, 119), crowd(40, 120), crowd(11, 110), crowd(3, 6),
	}
	for _, cost := range []int{1, 2, 500, 999, 1000} {
		out = append(out, with(ring(4), func(l *api.Layout) { l.Edges[3].Cost = cost }))
	}
	return out
}

// wrongNodes are no nodes of a layout of so many.
func wrongNodes(count int) []int {
	return []int{-1, -2, -40, math.MinInt, math.MinInt + 1, count, count + 1, 40, 41, 1000, 1 << 32, 1<<32 + count - 1, 1 << 62, math.MaxInt}
}

// wrongLayouts may not be, each for one reason alone, at each place.
func wrongLayouts() []api.Layout {
	var out []api.Layout
	for _, count := range []int{0, -1, -2, -40, 41, 42, 120, 1 << 32, 1<<32 + 1, math.MinInt, math.MaxInt} {
		out = append(out, of(count), with(ring(2), func(l *api.Layout) { l.Nodes = count }), api.Layout{Nodes: count, Edges: []api.Edge{}})
	}
	for _, edges := range []int{121, 122, 240, 1000} {
		out = append(out, crowd(40, edges))
	}
	out = append(out, crowd(12, 121), with(crowd(12, 120), func(l *api.Layout) { l.Nodes, l.Edges = 13, append(l.Edges, edge(12, 0, 1)) }))
	for _, l := range []api.Layout{ring(2), ring(5), ring(40), crowd(12, 120)} {
		for at := range l.Edges {
			out = append(out, spoiled(l, at)...)
		}
	}
	return out
}

// spoiled are layouts in which one edge may not be.
func spoiled(l api.Layout, at int) []api.Layout {
	var out []api.Layout
	add := func(change func(e *api.Edge)) {
		out = append(out, with(l, func(l *api.Layout) { change(&l.Edges[at]) }))
	}
	for _, n := range wrongNodes(l.Nodes) {
		add(func(e *api.Edge) { e.From = n })
		add(func(e *api.Edge) { e.To = n })
		add(func(e *api.Edge) { e.From, e.To = n, n })
	}
	for _, cost := range []int{0, -1, -1000, 1001, 1002, 1 << 32, 1<<32 + 1, math.MinInt, math.MinInt + 1, math.MaxInt} {
		add(func(e *api.Edge) { e.Cost = cost })
	}
	add(func(e *api.Edge) { e.From = e.To })
	add(func(e *api.Edge) { e.To = e.From })
	if len(l.Edges) == 120 {
		return out
	}
	// The same way twice, with the same cost or another one, ahead of all and behind all.
	for _, cost := range []int{l.Edges[at].Cost, 77} {
		again := edge(l.Edges[at].From, l.Edges[at].To, cost)
		out = append(out, with(l, func(l *api.Layout) { l.Edges = append(l.Edges, again) }), with(l, func(l *api.Layout) { l.Edges = append([]api.Edge{again}, l.Edges...) }))
	}
	return out
}

func wantRight(t *testing.T, l api.Layout, want bool) {
	t.Helper()
	if isRight(l) != want {
		t.Fatalf("the test's own isRight(%s) is not %t", told(l), want)
	}
	if got := layout.Right(l); got != want {
		t.Fatalf("Right(%s): %t; want %t", told(l), got, want)
	}
}

// wantOut: the edges out of a node are those that begin there, none if the layout is not right.
func wantOut(t *testing.T, l api.Layout, node int) {
	t.Helper()
	var want []int
	if isRight(l) {
		for i, e := range l.Edges {
			if e.From == node {
				want = append(want, i)
			}
		}
	}
	if got := layout.Out(l, node); !slices.Equal(got, want) {
		t.Fatalf("Out(%s, %d): %v; want %v", told(l), node, got, want)
	}
}

func wantBetween(t *testing.T, l api.Layout, from, to int) {
	t.Helper()
	want := slices.IndexFunc(l.Edges, func(e api.Edge) bool { return e.From == from && e.To == to })
	ok := want >= 0 && isRight(l)
	if !ok {
		want = 0
	}
	if got, is := layout.Between(l, from, to); got != want || is != ok {
		t.Fatalf("Between(%s, %d, %d): %d, %t; want %d, %t", told(l), from, to, got, is, want, ok)
	}
}

// wantLook: Out and Between, of all nodes and of numbers that are none.
func wantLook(t *testing.T, l api.Layout) {
	t.Helper()
	numbers := wrongNodes(l.Nodes)
	for node := range max(0, min(l.Nodes, 41)) {
		numbers = append(numbers, node)
	}
	for _, node := range numbers {
		wantOut(t, l, node)
		for _, to := range numbers {
			wantBetween(t, l, node, to)
		}
	}
}

// Y1

func TestRight(t *testing.T) {
	for _, l := range rightLayouts() {
		wantRight(t, l, true)
	}
}

func TestWrong(t *testing.T) {
	for _, l := range wrongLayouts() {
		wantRight(t, l, false)
	}
}

// TestBounds: each bound that the chapter names, from both sides.
func TestBounds(t *testing.T) {
	for count, want := range map[int]bool{0: false, 1: true, 40: true, 41: false, -1: false} {
		wantRight(t, of(count), want)
	}
	for edges, want := range map[int]bool{0: true, 119: true, 120: true, 121: false} {
		wantRight(t, crowd(40, edges), want)
		wantRight(t, crowd(12, edges), want)
	}
	for cost, want := range map[int]bool{0: false, 1: true, 1000: true, 1001: false, -1: false} {
		wantRight(t, of(2, edge(0, 1, cost)), want)
	}
	for to, want := range map[int]bool{-1: false, 0: false, 1: true, 2: true, 3: false} {
		wantRight(t, of(3, edge(0, to, 1)), want)
	}
	wantRight(t, of(1, edge(0, 0, 1)), false)
	wantRight(t, of(2, edge(0, 1, 1), edge(0, 1, 1)), false)
	wantRight(t, of(2, edge(0, 1, 1), edge(0, 1, 2)), false)
	wantRight(t, of(2, edge(0, 1, 1), edge(1, 0, 1)), true)
	wantRight(t, of(2, edge(0, 1, 1), edge(1, 0, 1), edge(0, 1, 1)), false)
}

// TestRightByChance: with numbers around the bounds.
func TestRightByChance(t *testing.T) {
	chance := rand.New(rand.NewSource(1))
	right := 0
	for range 100000 {
		l := anyLayout(chance, chance.Intn(12)+1)
		if chance.Intn(4) == 0 {
			l.Nodes += chance.Intn(3) - 1
		}
		if len(l.Edges) > 0 && chance.Intn(2) == 0 {
			e := &l.Edges[chance.Intn(len(l.Edges))]
			place := []*int{&e.From, &e.To, &e.Cost}[chance.Intn(3)]
			*place += chance.Intn(5) - 2
		}
		want := isRight(l)
		wantRight(t, l, want)
		if want {
			right++
		}
	}
	if right < 20000 || right > 90000 {
		t.Errorf("%d of the layouts by chance are right", right)
	}
}

// TestManyEdges: so many edges as nobody may have are soon refused.
func TestManyEdges(t *testing.T) {
	l := api.Layout{Nodes: 40, Edges: make([]api.Edge, 5_000_000)}
	for i := range l.Edges {
		l.Edges[i] = edge(i%40, (i+1)%40, 1)
	}
	for range 1000 {
		if layout.Right(l) || layout.Strong(l) || len(layout.Out(l, 0)) > 0 || len(layout.Reach(l, nil, 0)) > 0 {
			t.Fatal("too many edges are right")
		}
	}
}

// Y2

func TestLook(t *testing.T) {
	for _, l := range rightLayouts() {
		wantLook(t, l)
	}
	chance := rand.New(rand.NewSource(2))
	for range 300 {
		wantLook(t, anyLayout(chance, chance.Intn(40)+1))
	}
}

// TestLookPlain: what stands there, told in numbers.
func TestLookPlain(t *testing.T) {
	l := yard()
	for node, want := range [][]int{{0}, {1, 3}, {2}, {4}, {5}, {}} {
		if got := layout.Out(l, node); !slices.Equal(got, want) {
			t.Errorf("Out of %d: %v; want %v", node, got, want)
		}
	}
	for i, x := range []struct {
		from, to, want int
		ok             bool
	}{{0, 1, 0, true}, {1, 2, 1, true}, {2, 0, 2, true}, {1, 3, 3, true}, {3, 4, 4, true}, {4, 3, 5, true}, {1, 0, 0, false}, {3, 1, 0, false}, {0, 0, 0, false}, {0, 5, 0, false}, {-1, 0, 0, false}} {
		if got, ok := layout.Between(l, x.from, x.to); got != x.want || ok != x.ok {
			t.Errorf("%d: Between %d and %d: %d, %t", i, x.from, x.to, got, ok)
		}
	}
	// The edges stand in no order of their nodes: they are told by their places.
	l = of(3, edge(2, 1, 9), edge(0, 2, 9), edge(2, 0, 1), edge(0, 1, 1))
	if got := layout.Out(l, 2); !slices.Equal(got, []int{0, 2}) {
		t.Errorf("Out of 2: %v", got)
	}
	if got := layout.Out(l, 0); !slices.Equal(got, []int{1, 3}) {
		t.Errorf("Out of 0: %v", got)
	}
	if got := layout.Out(l, 1); len(got) != 0 {
		t.Errorf("Out of 1: %v", got)
	}
	// All edges lead out of one node, or all to it.
	out, in := of(40), of(40)
	for i := range 39 {
		out.Edges = append(out.Edges, edge(7, (46-i)%40, 1))
		in.Edges = append(in.Edges, edge((46-i)%40, 7, 1))
	}
	wantLook(t, out)
	wantLook(t, in)
	if got := layout.Out(out, 7); !slices.Equal(got, span(0, 38)) {
		t.Errorf("Out of 7: %v", got)
	}
}

// TestLookWrong: of a layout that is not right there is nothing, wherever it is wrong.
func TestLookWrong(t *testing.T) {
	for _, l := range wrongLayouts() {
		for _, node := range []int{-1, 0, 1, 2, 39, 40, l.Nodes - 1, l.Nodes} {
			if got := layout.Out(l, node); len(got) > 0 {
				t.Fatalf("Out(%s, %d): %v", told(l), node, got)
			}
		}
		for _, e := range append(l.Edges[:min(len(l.Edges), 50):min(len(l.Edges), 50)], edge(0, 1, 1), edge(-1, 0, 1)) {
			if got, ok := layout.Between(l, e.From, e.To); got != 0 || ok {
				t.Fatalf("Between(%s, %d, %d): %d, %t", told(l), e.From, e.To, got, ok)
			}
		}
	}
}
