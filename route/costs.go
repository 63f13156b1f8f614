package route

import (
	"iter"
	"slices"

	"humpyard/api"
	"humpyard/heap"
)

// search is a search for the cheapest ways to a node, from that node backwards.
type search struct {
	edges   []api.Edge
	blocked []int
	done    [api.MaxNodes]bool // the nodes whose cost is known
	open    *heap.Heap         // edges to those, by the cost of the way that begins with the edge
}

// costs are the least costs of ways to a node of a right layout, by rising costs, one of each other node from which there is a way: with the least edge with which such a way may begin.
func costs(l api.Layout, blocked []int, to int) iter.Seq2[int, int] {
	return func(yield func(edge, cost int) bool) {
		s := search{edges: l.Edges, blocked: blocked, open: heap.New()}
		s.come(to, 0)
		// Of edges that make ways of one cost the heap gives the least one first; all of them are in it by then, as each edge costs something.
		for cost, edge, ok := s.open.Pop(); ok; cost, edge, ok = s.open.Pop() {
			from := s.edges[edge].From
			if s.done[from] {
				continue
			}
			if !yield(edge, cost) {
				return
			}
			s.come(from, cost)
		}
	}
}

// come opens the edges to a node whose cost is known now, unless none may end there.
func (s *search) come(node, cost int) {
	s.done[node] = true
	if slices.Contains(s.blocked, node) {
		return
	}
	for i, e := range s.edges {
		if e.To == node {
			s.open.Push(cost+e.Cost, i)
		}
	}
}
