package route_test

import (
	"fmt"
	"math"
	"math/rand"
	"slices"

	"humpyard/api"
)

// Layouts, as briefly as they can be said.

func edge(from, to, cost int) api.Edge { return api.Edge{From: from, To: to, Cost: cost} }

func of(count int, edges ...api.Edge) api.Layout { return api.Layout{Nodes: count, Edges: edges} }

// ring is a layout in which each node leads to the next one, the last one to the first one.
func ring(count, cost int) api.Layout {
	l := of(count)
	for i := range count {
		l.Edges = append(l.Edges, edge(i, (i+1)%count, cost))
	}
	return l
}

// jumps is 40 nodes and 120 edges, each of cost 1000: from each node n the edge n leads on by one node, 40+n by two, 80+n by three.
func jumps() api.Layout {
	l := of(40)
	for i := range 120 {
		l.Edges = append(l.Edges, edge(i%40, (i+1+i/40)%40, 1000))
	}
	return l
}

// chain is 40 nodes and 120 edges, each of cost 1000: the edges 0 to 38 lead from each node to the next one, the others back to 0, 1 and 2.
func chain() api.Layout {
	l := of(40)
	for i := range 39 {
		l.Edges = append(l.Edges, edge(i, i+1, 1000))
	}
	for i := range 81 {
		l.Edges = append(l.Edges, edge(39-i%27, i/27, 1000))
	}
	return l
}

// grid is side times side nodes, from each of which an edge of cost 1 leads to the right, and one down.
func grid(side int) api.Layout {
	l := of(side * side)
	for n := range l.Nodes {
		if n%side < side-1 {
			l.Edges = append(l.Edges, edge(n, n+1, 1))
		}
		if n+side < l.Nodes {
			l.Edges = append(l.Edges, edge(n, n+side, 1))
		}
	}
	return l
}

// yard is a ring of four with two edges across, and a node to which no edge leads.
func yard() api.Layout {
	return of(5, edge(0, 1, 1), edge(1, 2, 1), edge(0, 2, 2), edge(2, 3, 4), edge(3, 0, 1), edge(1, 3, 6), edge(4, 0, 1))
}

// fork is two nodes between which one goes through one of two others, for as much: the edges 0 and 3, or 1 and 2.
func fork() api.Layout {
	return of(4, edge(0, 1, 1), edge(0, 2, 1), edge(2, 3, 1), edge(1, 3, 1))
}

// mixed is a layout with its edges at other places, by chance.
func mixed(chance *rand.Rand, l api.Layout) api.Layout {
	l.Edges = slices.Clone(l.Edges)
	chance.Shuffle(len(l.Edges), func(i, j int) { l.Edges[i], l.Edges[j] = l.Edges[j], l.Edges[i] })
	return l
}

// anyLayout is a right layout by chance, whose costs are 1 up to a greatest one.
func anyLayout(chance *rand.Rand, count, greatest int) api.Layout {
	l := of(count)
	for place := range count * count {
		if place/count != place%count {
			l.Edges = append(l.Edges, edge(place/count, place%count, chance.Intn(greatest)+1))
		}
	}
	l = mixed(chance, l)
	most := min(len(l.Edges), 120, []int{2 * count, 3 * count, 120}[chance.Intn(3)])
	l.Edges = l.Edges[:chance.Intn(most+1)]
	return l
}

// anyNumbers are up to so many numbers by chance, most of them nodes.
func anyNumbers(chance *rand.Rand, l api.Layout, most int) []int {
	var out []int
	for range chance.Intn(most + 1) {
		out = append(out, chance.Intn(l.Nodes+4)-2)
	}
	return out
}

// span is the numbers from one up to another one.
func span(from, to int) []int {
	var out []int
	for i := from; i <= to; i++ {
		out = append(out, i)
	}
	return out
}

// set is the numbers whose bits are 1.
func set(bits int) []int {
	var out []int
	for i := range 62 {
		if bits>>i&1 == 1 {
			out = append(out, i)
		}
	}
	return out
}

// told is a layout for a test's words.
func told(l api.Layout) string {
	s := fmt.Sprintf("%d nodes, %d edges: %v", l.Nodes, len(l.Edges), l.Edges)
	return s[:min(len(s), 400)]
}

// rightLayouts are right, each in its own way.
func rightLayouts() []api.Layout {
	return []api.Layout{
		of(1), {Nodes: 1, Edges: []api.Edge{}}, of(2), of(40),
		of(2, edge(0, 1, 1)), of(2, edge(1, 0, 1000)), of(2, edge(1, 0, 5), edge(0, 1, 6)),
		ring(2, 1), ring(3, 2), ring(40, 1), ring(40, 1000), jumps(), chain(), grid(3), grid(6), yard(), fork(),
	}
}

// wrongNodes are no nodes of a layout of so many.
func wrongNodes(count int) []int {
	return []int{-1, -2, -40, math.MinInt, math.MinInt + 1, count, count + 1, 40, 41, 1000, 1 << 32, 1<<32 + count - 1, 1 << 62, math.MaxInt}
}

// wrongLayouts may not be, each for one reason alone.
func wrongLayouts() []api.Layout {
	var out []api.Layout
	for _, count := range []int{0, -1, -40, 41, 1 << 32, 1<<32 + 1, math.MinInt, math.MaxInt} {
		out = append(out, of(count), api.Layout{Nodes: count, Edges: ring(3, 1).Edges})
	}
	// more nodes than there may be, with an edge to each of them; fewer than the edges tell; more edges than there may be
	out = append(out, ring(41, 1), api.Layout{Nodes: 2, Edges: ring(3, 1).Edges}, api.Layout{Nodes: 40, Edges: append(jumps().Edges, edge(0, 4, 1))})
	for _, bad := range []api.Edge{
		edge(1, 1, 1), edge(0, 0, 1), edge(-1, 0, 1), edge(0, -1, 1), edge(3, 0, 1), edge(0, 3, 1), edge(40, 0, 1), edge(0, 40, 1),
		edge(math.MaxInt, 0, 1), edge(0, math.MaxInt, 1), edge(math.MinInt, 0, 1), edge(0, math.MinInt, 1), edge(1<<32, 2, 1), edge(2, 1<<32, 1),
		edge(1, 0, 0), edge(1, 0, -1), edge(1, 0, 1001), edge(1, 0, math.MaxInt), edge(1, 0, math.MinInt), edge(1, 0, 1<<32+1),
		edge(0, 1, 1), edge(0, 1, 2),
	} {
		good := ring(3, 1).Edges
		for at := range len(good) + 1 {
			out = append(out, of(3, slices.Insert(slices.Clone(good), at, bad)...))
		}
	}
	return out
}

// What the chapter says, said anew.

// way is edges, and what they cost.
type way struct {
	edges []int
	cost  int
}

// comesFirst tells whether one way is to be taken, and not the other one.
func comesFirst(a, b way) bool {
	return a.cost < b.cost || a.cost == b.cost && slices.Compare(a.edges, b.edges) < 0
}

// best is, of each node, the way to a node that is to be taken, if there is one: all edges are put ahead of what there is, until nothing becomes better.
func best(l api.Layout, blocked []int, to int) map[int]way {
	ways := map[int]way{to: {}}
	for better := true; better; {
		better = false
		for i, e := range l.Edges {
			behind, is := ways[e.To]
			if !is || slices.Contains(blocked, e.To) {
				continue
			}
			w := way{append([]int{i}, behind.edges...), e.Cost + behind.cost}
			if old, was := ways[e.From]; !was || comesFirst(w, old) {
				ways[e.From], better = w, true
			}
		}
	}
	return ways
}

// eachWay hands over each way from a node to another one that comes to no node twice.
func eachWay(l api.Layout, blocked []int, from, to int, do func(w way)) {
	var goOn func(at int, gone []int, w way)
	goOn = func(at int, gone []int, w way) {
		if at == to {
			do(w)
			return
		}
		for i, e := range l.Edges {
			if e.From == at && !slices.Contains(gone, e.To) && !slices.Contains(blocked, e.To) {
				goOn(e.To, append(slices.Clone(gone), e.To), way{append(slices.Clone(w.edges), i), w.cost + e.Cost})
			}
		}
	}
	goOn(from, []int{from}, way{})
}
