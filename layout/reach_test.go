package layout_test

import (
	"math"
	"math/rand"
	"slices"
	"testing"

	"humpyard/api"
	"humpyard/layout"
)

// steps tells, said anew, of each two nodes whether one comes from the one to the other past none that is blocked: through the nodes up to 0, up to 1, and so on.
func steps(l api.Layout, blocked []int) [][]bool {
	can := make([][]bool, l.Nodes)
	for from := range can {
		can[from] = make([]bool, l.Nodes)
		can[from][from] = true
	}
	for _, e := range l.Edges {
		if !slices.Contains(blocked, e.To) {
			can[e.From][e.To] = true
		}
	}
	for by := range can {
		for from := range can {
			for to := range can {
				can[from][to] = can[from][to] || can[from][by] && can[by][to]
			}
		}
	}
	return can
}

// isStrong is what Strong must answer.
func isStrong(l api.Layout) bool {
	return isRight(l) && !slices.ContainsFunc(steps(l, nil), func(can []bool) bool { return slices.Contains(can, false) })
}

func wantReach(t *testing.T, l api.Layout, blocked []int, from int, want []int) {
	t.Helper()
	if got := layout.Reach(l, blocked, from); !slices.Equal(got, want) {
		t.Fatalf("Reach(%s, %v, %d): %v; want %v", told(l), blocked, from, got, want)
	}
}

// wantReaches: Reach from all nodes, and from numbers that are none.
func wantReaches(t *testing.T, l api.Layout, blocked []int) {
	t.Helper()
	can := steps(l, blocked)
	for from := range l.Nodes {
		var want []int
		for to := range l.Nodes {
			if can[from][to] {
				want = append(want, to)
			}
		}
		wantReach(t, l, blocked, from, want)
	}
	for _, from := range wrongNodes(l.Nodes) {
		wantReach(t, l, blocked, from, nil)
	}
}

func wantStrong(t *testing.T, l api.Layout, want bool) {
	t.Helper()
	if got := layout.Strong(l); got != want {
		t.Fatalf("Strong(%s): %t; want %t", told(l), got, want)
	}
}

// set is the numbers whose bits are 1.
func set(bits int) []int {
	var out []int
	for i := range 62 {
		if bits>>i&1 == 1 {
			out = append(out, i)
		}
	}
	return out
}

// eachLayout hands over each layout of so many nodes, its edges by rising nodes, and by falling ones.
func eachLayout(count int, do func(l api.Layout)) {
	var all []api.Edge
	for from := range count {
		for to := range count {
			if from != to {
				all = append(all, edge(from, to, 1))
			}
		}
	}
	for bits := range 1 << len(all) {
		l := of(count)
		for _, i := range set(bits) {
			l.Edges = append(l.Edges, all[i])
		}
		do(l)
		slices.Reverse(l.Edges)
		do(l)
	}
}

// span is the numbers from one up to another one.
func span(from, to int) []int {
	var out []int
	for i := from; i <= to; i++ {
		out = append(out, i)
	}
	return out
}

// Y3

func TestExample(t *testing.T) {
	l := of(3, edge(0, 1, 1), edge(1, 2, 1), edge(2, 0, 1))
	wantStrong(t, l, true)
	wantReach(t, l, []int{2}, 0, []int{0, 1})
}

func TestReach(t *testing.T) {
	l := yard()
	for _, x := range []struct {
		blocked []int
		from    int
		want    []int
	}{
		{nil, 0, []int{0, 1, 2, 3, 4}}, {[]int{}, 2, []int{0, 1, 2, 3, 4}}, {nil, 3, []int{3, 4}}, {nil, 4, []int{3, 4}},
		{[]int{1}, 0, []int{0}}, {[]int{1}, 2, []int{0, 2}}, {[]int{3}, 0, []int{0, 1, 2}}, {[]int{4}, 0, []int{0, 1, 2, 3}}, {[]int{2, 3}, 0, []int{0, 1}}, {[]int{0, 3}, 1, []int{1, 2}}, {[]int{4}, 3, []int{3}},
		// the one from which one begins is blocked
		{[]int{0}, 0, []int{0, 1, 2, 3, 4}}, {[]int{1}, 1, []int{0, 1, 2, 3, 4}}, {[]int{4}, 4, []int{3, 4}}, {[]int{3, 4}, 4, []int{4}}, {[]int{0, 1, 2, 3, 4}, 1, []int{1}},
		// no nodes
		{nil, 5, nil}, {nil, -1, nil}, {[]int{5}, 5, nil}, {[]int{-1}, -1, nil}, {nil, math.MaxInt, nil}, {nil, math.MinInt, nil},
	} {
		wantReach(t, l, x.blocked, x.from, x.want)
	}
}

// TestBlocked: numbers that are no nodes block nothing, and one that stands there twice blocks as one that stands there once.
func TestBlocked(t *testing.T) {
	l := yard()
	wantReach(t, l, []int{1, 1}, 2, []int{0, 2})
	wantReach(t, l, []int{3, 1, 3, 1, 3}, 2, []int{0, 2})
	wantReach(t, l, []int{2, 2}, 2, []int{0, 1, 2, 3, 4})
	wantReach(t, l, wrongNodes(5), 0, []int{0, 1, 2, 3, 4})
	wantReach(t, l, slices.Concat(wrongNodes(5), []int{3}, wrongNodes(5)), 0, []int{0, 1, 2})
	for _, n := range wrongNodes(5) {
		wantReach(t, l, []int{n}, 2, []int{0, 1, 2, 3, 4})
		wantReach(t, l, []int{n, 1, n}, 2, []int{0, 2})
	}
	for _, count := range []int{2, 39, 40} {
		wantReach(t, ring(count), wrongNodes(count), 0, span(0, count-1))
	}
	// A great many, of which one is a node.
	many := make([]int, 1_000_000)
	for i := range many {
		many[i] = 40 + i
	}
	many[777_777] = 5
	wantReach(t, ring(40), many, 0, span(0, 4))
}

// TestRings: one goes once round, past as many nodes as there may be.
func TestRings(t *testing.T) {
	for _, count := range []int{2, 3, 39, 40} {
		l, back := ring(count), ring(count)
		for i, e := range back.Edges {
			back.Edges[i] = edge(e.To, e.From, e.Cost)
		}
		wantStrong(t, l, true)
		wantStrong(t, back, true)
		wantStrong(t, line(count), false)
		for from := range count {
			wantReach(t, l, nil, from, span(0, count-1))
			wantReach(t, back, nil, from, span(0, count-1))
			wantReach(t, line(count), nil, from, span(from, count-1))
			for shut := range from {
				wantReach(t, l, []int{shut}, from, slices.Concat(span(0, shut-1), span(from, count-1)))
			}
		}
	}
}

// TestOneNode: a node without edges is all that there is.
func TestOneNode(t *testing.T) {
	for _, l := range []api.Layout{of(1), {Nodes: 1, Edges: []api.Edge{}}} {
		wantStrong(t, l, true)
		for _, blocked := range [][]int{nil, {}, {0}, {0, 0}, {1}, {-1}} {
			wantReach(t, l, blocked, 0, []int{0})
			for _, from := range wrongNodes(1) {
				wantReach(t, l, blocked, from, nil)
			}
		}
	}
	for count := 2; count <= 40; count++ {
		wantStrong(t, of(count), false)
		wantReaches(t, of(count), nil)
	}
}

// TestEachSmall: each layout of up to four nodes, whatever is blocked.
func TestEachSmall(t *testing.T) {
	for count := 1; count <= 4; count++ {
		eachLayout(count, func(l api.Layout) {
			wantStrong(t, l, isStrong(l))
			for bits := range 1 << count {
				wantReaches(t, l, set(bits))
			}
		})
	}
}

func TestReachByChance(t *testing.T) {
	chance := rand.New(rand.NewSource(3))
	strong, all := 0, 1500
	for range all {
		l := anyLayout(chance, chance.Intn(40)+1)
		want := isStrong(l)
		wantStrong(t, l, want)
		if want {
			strong++
		}
		for range 3 {
			var blocked []int
			for range chance.Intn(l.Nodes + 1) {
				blocked = append(blocked, chance.Intn(l.Nodes+4)-2)
			}
			wantReaches(t, l, blocked)
		}
	}
	if strong < all/10 || strong > all-all/10 {
		t.Errorf("%d of the layouts by chance are strong", strong)
	}
}

func TestReachAll(t *testing.T) {
	for _, l := range rightLayouts() {
		wantStrong(t, l, isStrong(l))
		for _, blocked := range [][]int{nil, {0}, {1}, {0, 1}, {l.Nodes - 1}, span(0, l.Nodes), span(1, 40)} {
			wantReaches(t, l, blocked)
		}
	}
}

// TestStrong: one edge less, and it is so no more.
func TestStrong(t *testing.T) {
	for _, count := range []int{2, 3, 7, 40} {
		for at := range count {
			wantStrong(t, with(ring(count), func(l *api.Layout) { l.Edges = slices.Delete(l.Edges, at, at+1) }), false)
		}
		there := line(count)
		for _, e := range line(count).Edges {
			there.Edges = append(there.Edges, edge(e.To, e.From, 2))
		}
		wantStrong(t, there, true)
		wantStrong(t, with(there, func(l *api.Layout) { l.Edges = l.Edges[:len(l.Edges)-1] }), false)
		wantStrong(t, with(there, func(l *api.Layout) { l.Edges = l.Edges[1:] }), false)
	}
	// A node that none leaves, or to which none comes, first, last, or between the others.
	for _, n := range []int{0, 3, 6} {
		end, begin := of(7), of(7)
		for i := range 42 {
			e := edge(i%7, (i+1+i/7)%7, 1)
			if e.From != n {
				end.Edges = append(end.Edges, e)
			}
			if e.To != n {
				begin.Edges = append(begin.Edges, e)
			}
		}
		wantStrong(t, end, false)
		wantStrong(t, begin, false)
	}
	wantStrong(t, crowd(7, 42), true)
	// Two rings, with a way from the one to the other alone.
	two := of(6, edge(0, 1, 1), edge(1, 2, 1), edge(2, 0, 1), edge(3, 4, 1), edge(4, 5, 1), edge(5, 3, 1))
	wantStrong(t, two, false)
	wantStrong(t, with(two, func(l *api.Layout) { l.Edges = append(l.Edges, edge(0, 3, 1)) }), false)
	wantStrong(t, with(two, func(l *api.Layout) { l.Edges = append(l.Edges, edge(3, 0, 1)) }), false)
	wantStrong(t, with(two, func(l *api.Layout) { l.Edges = append(l.Edges, edge(3, 0, 1), edge(2, 5, 1)) }), true)
}

// TestReachWrong: of a layout that is not right there is nothing, wherever it is wrong.
func TestReachWrong(t *testing.T) {
	for _, l := range wrongLayouts() {
		wantStrong(t, l, false)
		for _, blocked := range [][]int{nil, {0}, {-1, 40}} {
			for _, from := range []int{-1, 0, 1, 39, 40, l.Nodes - 1, l.Nodes} {
				wantReach(t, l, blocked, from, nil)
			}
		}
	}
}
