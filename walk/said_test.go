package walk_test

import (
	"fmt"
	"math"
	"math/rand"
	"slices"
	"strings"

	"humpyard/api"
	"humpyard/layout"
	"humpyard/order"
)

// Layouts and orders, as briefly as they can be said.

func edge(from, to, cost int) api.Edge { return api.Edge{From: from, To: to, Cost: cost} }

func of(count int, edges ...api.Edge) api.Layout { return api.Layout{Nodes: count, Edges: edges} }

// ring is a layout in which each node leads to the next one, the last one to the first one.
func ring(count int) api.Layout {
	l := of(count)
	for i := range count {
		l.Edges = append(l.Edges, edge(i, (i+1)%count, 1))
	}
	return l
}

// jumps is 40 nodes and 120 edges: from each node n the edge n leads on by one node, 40+n by two, 80+n by three.
func jumps() api.Layout {
	l := of(40)
	for i := range 120 {
		l.Edges = append(l.Edges, edge(i%40, (i+1+i/40)%40, 1000))
	}
	return l
}

// yard is a ring of four, whose edge 4 leads from 1 back to 0, 5 from 0 to 2, and whose node 4 nothing leads to.
func yard() api.Layout {
	return of(5, append(ring(4).Edges, edge(1, 0, 1), edge(0, 2, 7), edge(4, 1, 1))...)
}

// over is an order of the vehicle v over a path, of which so many nodes are released; nothing of it is looked at.
func over(header, number, update, seq, released int, path ...int) api.Order {
	o := api.Order{Header: header, Vehicle: "v", Order: number, Update: update}
	for i, element := range path {
		if i%2 == 0 {
			o.Nodes = append(o.Nodes, api.Stop{Node: element, Seq: seq + i, Released: i/2 < released})
		} else {
			o.Edges = append(o.Edges, api.Way{Edge: element - 1000, Seq: seq + i, Released: (i+1)/2 < released})
		}
	}
	return o
}

// round is a path of so many elements over a ring of so many nodes, from node 0 on.
func round(elements, nodes int) []int {
	var path []int
	for i := range elements {
		path = append(path, []int{i / 2 % nodes, 1000 + i/2%nodes}[i%2])
	}
	return path
}

// with is o, in memory of its own, with a change.
func with(o api.Order, change func(o *api.Order)) api.Order {
	o = copied(o)
	change(&o)
	return o
}

// copied is o in memory of its own.
func copied(o api.Order) api.Order {
	o.Nodes, o.Edges = slices.Clone(o.Nodes), slices.Clone(o.Edges)
	return o
}

// copiedAll is orders in memory of their own.
func copiedAll(all []api.Order) []api.Order {
	out := slices.Clone(all)
	for i, o := range out {
		out[i] = copied(o)
	}
	return out
}

// told is what a test's words tell of something.
func told(x any) string {
	s := fmt.Sprintf("%+v", x)
	return s[:min(len(s), 600)]
}

// What may not be.

// wrongNums are numbers that may not be in an order.
var wrongNums = []int{-1, -2, -1000, -1_000_000_000, 1_000_000_001, 1_000_000_002, 1 << 32, 1 << 62, math.MaxInt, math.MaxInt - 1, math.MinInt, math.MinInt + 2}

// places are where an order of three nodes has its numbers.
var places = []func(o *api.Order) *int{
	func(o *api.Order) *int { return &o.Header }, func(o *api.Order) *int { return &o.Order }, func(o *api.Order) *int { return &o.Update },
	func(o *api.Order) *int { return &o.Nodes[0].Node }, func(o *api.Order) *int { return &o.Nodes[1].Node }, func(o *api.Order) *int { return &o.Nodes[2].Node },
	func(o *api.Order) *int { return &o.Nodes[0].Seq }, func(o *api.Order) *int { return &o.Nodes[1].Seq }, func(o *api.Order) *int { return &o.Nodes[2].Seq },
	func(o *api.Order) *int { return &o.Edges[0].Edge }, func(o *api.Order) *int { return &o.Edges[1].Edge },
	func(o *api.Order) *int { return &o.Edges[0].Seq }, func(o *api.Order) *int { return &o.Edges[1].Seq },
}

// spoiled are what becomes of an order of three nodes, of which two are released, that is right: each is not.
func spoiled(good api.Order) []api.Order {
	var out []api.Order
	add := func(change func(o *api.Order)) { out = append(out, with(good, change)) }
	for _, at := range places {
		for _, n := range wrongNums {
			add(func(o *api.Order) { *at(o) = n })
		}
	}
	for _, name := range []string{"", "abcdefghijklmnopq", "v 1", "v/1", "+", "\x00", "é", "\xff", strings.Repeat("v", 1<<16)} {
		add(func(o *api.Order) { o.Vehicle = name })
	}
	for i := range good.Nodes {
		add(func(o *api.Order) { o.Nodes[i].Seq++ })
		add(func(o *api.Order) { o.Nodes[i].Seq -= 2 })
	}
	for i := range good.Edges {
		add(func(o *api.Order) { o.Edges[i].Seq++ })
		add(func(o *api.Order) { o.Edges[i].Released = !o.Edges[i].Released })
	}
	add(func(o *api.Order) { o.Nodes[0].Released = false })
	add(func(o *api.Order) { o.Nodes[1].Released = false })
	add(func(o *api.Order) { o.Nodes[2].Released = true })
	// nothing is released; what is stands behind what is not
	add(func(o *api.Order) { *o = over(o.Header, o.Order, o.Update, o.Nodes[0].Seq, 0, pathOf(good)...) })
	add(func(o *api.Order) {
		o.Edges[0].Released, o.Nodes[1].Released, o.Edges[1].Released, o.Nodes[2].Released = false, false, true, true
	})
	add(func(o *api.Order) { o.Nodes, o.Edges = nil, nil })
	add(func(o *api.Order) { o.Nodes = nil })
	add(func(o *api.Order) { o.Edges = nil })
	add(func(o *api.Order) { o.Nodes = o.Nodes[:2] })
	add(func(o *api.Order) { o.Nodes = o.Nodes[1:] })
	add(func(o *api.Order) { o.Edges = o.Edges[:1] })
	add(func(o *api.Order) { o.Nodes = append(o.Nodes, api.Stop{Node: 1, Seq: o.Nodes[2].Seq + 2}) })
	add(func(o *api.Order) { o.Edges = append(o.Edges, api.Way{Edge: 1, Seq: o.Nodes[2].Seq + 1}) })
	// an odd number first, and one too great at the end
	out = append(out, over(good.Header, good.Order, good.Update, 3, 2, pathOf(good)...), over(good.Header, good.Order, good.Update, 999_999_998, 2, pathOf(good)...))
	// a node too many
	return append(out, over(good.Header, good.Order, good.Update, 0, 1, round(129, 4)...), over(good.Header, good.Order, good.Update, 0, 65, round(129, 4)...), api.Order{}, api.Order{Vehicle: "v"})
}

// wrongLayouts may not be, each for one reason alone; the ring of four is in them all, as far as may be.
func wrongLayouts() []api.Layout {
	var out []api.Layout
	for _, count := range []int{0, -1, -40, 3, 41, 1 << 32, 1<<32 + 4, math.MinInt, math.MaxInt} {
		out = append(out, api.Layout{Nodes: count, Edges: ring(4).Edges})
	}
	for _, bad := range []api.Edge{
		edge(1, 1, 1), edge(0, 0, 1), edge(-1, 0, 1), edge(0, -1, 1), edge(4, 0, 1), edge(0, 4, 1), edge(math.MaxInt, 0, 1), edge(0, math.MinInt, 1),
		edge(1, 0, 0), edge(1, 0, -1), edge(1, 0, 1001), edge(1, 0, math.MaxInt), edge(0, 1, 1), edge(0, 1, 2),
	} {
		out = append(out, of(4, append(ring(4).Edges, bad)...))
	}
	return append(out, of(0), api.Layout{Nodes: 40, Edges: append(jumps().Edges, edge(0, 4, 1))}, ring(41))
}

// What the chapter says, said anew; when an order, and a layout, is right is those chapters' own to tell.

// baseOf is what Base must answer.
func baseOf(o api.Order) []int {
	if !order.Right(o) {
		return nil
	}
	return pathOf(o)[:2*order.Base(o)-1]
}

// pathOf is all elements of an order that is right.
func pathOf(o api.Order) []int {
	path := []int{o.Nodes[0].Node}
	for i, w := range o.Edges {
		path = append(path, 1000+w.Edge, o.Nodes[i+1].Node)
	}
	return path
}

// fits is what Fits must answer.
func fits(l api.Layout, o api.Order) bool {
	if !layout.Right(l) || !order.Right(o) {
		return false
	}
	for _, n := range o.Nodes {
		if n.Node < 0 || n.Node >= l.Nodes {
			return false
		}
	}
	for i, w := range o.Edges {
		if n, is := layout.Between(l, o.Nodes[i].Node, o.Nodes[i+1].Node); !is || n != w.Edge {
			return false
		}
	}
	return true
}

// follows is what Follows must answer.
func follows(a, b api.Order) bool {
	if !order.Right(a) || !order.Right(b) || a.Vehicle != b.Vehicle || b.Header <= a.Header {
		return false
	}
	if a.Order != b.Order {
		return b.Update == 0
	}
	var last api.Stop
	for _, n := range a.Nodes {
		if n.Released {
			last = n
		}
	}
	return b.Update > a.Update && b.Nodes[0].Node == last.Node && b.Nodes[0].Seq == last.Seq
}

// check is what Check must answer: what one has come to is put together from the first order on.
func check(l api.Layout, all []api.Order) int {
	come := map[int]bool{}
	for i, o := range all {
		if !fits(l, o) || i == 0 && o.Update != 0 || i > 0 && !follows(all[i-1], o) {
			return i
		}
		if i > 0 && all[i-1].Order != o.Order {
			if !come[o.Nodes[0].Node] {
				return i
			}
			come = map[int]bool{}
		}
		for _, n := range o.Nodes {
			if n.Released {
				come[n.Node] = true
			}
		}
	}
	return -1
}

// isPath tells whether elements are a path.
func isPath(path []int) bool {
	for i, element := range path {
		if i%2 == 0 && (element < 0 || element > 999) || i%2 == 1 && element < 1000 {
			return false
		}
	}
	return len(path)%2 != 0
}

// orderOf is what Order must answer.
func orderOf(head api.Order, path []int, seq, released int) (api.Order, bool) {
	if !isPath(path) {
		return api.Order{}, false
	}
	o := over(head.Header, head.Order, head.Update, seq, released, path[:min(len(path), 127)]...)
	o.Vehicle = head.Vehicle
	if !order.Right(o) {
		return api.Order{}, false
	}
	return o, true
}

// isSame tells whether two orders are the same; lists without elements are.
func isSame(a, b api.Order) bool {
	return a.Header == b.Header && a.Vehicle == b.Vehicle && a.Order == b.Order && a.Update == b.Update &&
		slices.Equal(a.Nodes, b.Nodes) && slices.Equal(a.Edges, b.Edges)
}

// By chance.

// anyLayout is a right layout by chance, with at least two nodes.
func anyLayout(chance *rand.Rand) api.Layout {
	l := of(2 + chance.Intn(7))
	if chance.Intn(4) == 0 {
		l = of(40)
	}
	for place := range l.Nodes * l.Nodes {
		if place/l.Nodes != place%l.Nodes {
			l.Edges = append(l.Edges, edge(place/l.Nodes, place%l.Nodes, 1+chance.Intn(1000)))
		}
	}
	chance.Shuffle(len(l.Edges), func(i, j int) { l.Edges[i], l.Edges[j] = l.Edges[j], l.Edges[i] })
	l.Edges = l.Edges[:chance.Intn(min(len(l.Edges), 120))+1]
	return l
}

// anyWalk is a path by chance over a layout's edges, from a node on, of up to so many edges.
func anyWalk(chance *rand.Rand, l api.Layout, at, most int) []int {
	path := []int{at}
	for range chance.Intn(most + 1) {
		out := layout.Out(l, at)
		if len(out) == 0 {
			break
		}
		n := out[chance.Intn(len(out))]
		at = l.Edges[n].To
		path = append(path, 1000+n, at)
	}
	return path
}

// anyLog is up to so many orders by chance that follow one another over a layout.
func anyLog(chance *rand.Rand, l api.Layout, most int) []api.Order {
	var all []api.Order
	var come []int // the nodes to which the last number's orders lead
	header, number, update, seq, at := 0, chance.Intn(3), 0, 2*chance.Intn(4), chance.Intn(l.Nodes)
	for range chance.Intn(most + 1) {
		path := anyWalk(chance, l, at, []int{3, 3, 10, 63}[chance.Intn(4)])
		released := 1 + chance.Intn((len(path)+1)/2)
		header += 1 + chance.Intn(2)
		all = append(all, over(header, number, update, seq, released, path...))
		for i := range released {
			come = append(come, path[2*i])
		}
		if chance.Intn(3) > 0 {
			update, seq, at = update+1+chance.Intn(2), seq+2*(released-1), path[2*(released-1)]
		} else {
			number, update, seq, at, come = (number+1+chance.Intn(2))%4, 0, 2*chance.Intn(4), come[chance.Intn(len(come))], nil
		}
	}
	return all
}

// bent is orders with a change by chance in one or two of them; nothing is written into those that are handed in.
func bent(chance *rand.Rand, all []api.Order) []api.Order {
	all = copiedAll(all)
	if len(all) == 0 {
		return all
	}
	for range 1 + chance.Intn(2) {
		at := chance.Intn(len(all))
		o := &all[at]
		switch chance.Intn(12) {
		case 0:
			o.Header += chance.Intn(7) - 3
		case 1:
			o.Update += chance.Intn(3) - 1
		case 2:
			o.Order = chance.Intn(4)
		case 3:
			o.Vehicle = []string{"v", "w", "", "v1"}[chance.Intn(4)]
		case 4:
			if len(o.Nodes) > 0 {
				o.Nodes[chance.Intn(len(o.Nodes))].Node = chance.Intn(9) - 1
			}
		case 5:
			if len(o.Edges) > 0 {
				o.Edges[chance.Intn(len(o.Edges))].Edge = chance.Intn(9) - 1
			}
		case 6: // all of its numbers
			by := 2 * (chance.Intn(3) - 1)
			for i := range o.Nodes {
				o.Nodes[i].Seq += by
			}
			for i := range o.Edges {
				o.Edges[i].Seq += by
			}
		case 7: // another one of them
			if len(o.Edges) > 0 {
				o.Edges[chance.Intn(len(o.Edges))].Seq++
			}
		case 8: // more or less is released
			count := 1 + chance.Intn(max(len(o.Nodes), 1))
			for i := range o.Nodes {
				o.Nodes[i].Released = i < count
			}
			for i := range o.Edges {
				o.Edges[i].Released = i+1 < count
			}
		case 9: // it is not there
			all = slices.Delete(all, at, at+1)
		case 10: // it comes twice
			all = slices.Insert(all, at, copied(*o))
		case 11: // it comes elsewhere
			other := chance.Intn(len(all))
			all[at], all[other] = all[other], all[at]
		}
		if len(all) == 0 {
			return all
		}
	}
	return all
}
