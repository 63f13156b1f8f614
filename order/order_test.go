package order_test

import (
	"fmt"
	"math"
	"math/rand"
	"reflect"
	"regexp"
	"slices"
	"strings"
	"testing"

	"humpyard/api"
	"humpyard/order"
)

// Orders, as briefly as they can be said.

func stop(node, seq int, released bool) api.Stop {
	return api.Stop{Node: node, Seq: seq, Released: released}
}

func way(edge, seq int, released bool) api.Way {
	return api.Way{Edge: edge, Seq: seq, Released: released}
}

// line is an order of so many nodes, of which the first ones are released; seq is its first node's.
func line(count, released, seq int) api.Order {
	o := api.Order{Header: 7, Vehicle: "v1", Order: 3, Update: 1, Nodes: []api.Stop{stop(5, seq, true)}}
	for i := 1; i < count; i++ {
		o.Edges = append(o.Edges, way(10+i, seq+2*i-1, i < released))
		o.Nodes = append(o.Nodes, stop(5+i, seq+2*i, i < released))
	}
	return o
}

// single is the chapter's example.
func single() api.Order {
	return api.Order{Header: 1, Vehicle: "v1", Order: 2, Update: 0, Nodes: []api.Stop{stop(3, 0, true)}}
}

// with is o, in memory of its own, with a change.
func with(o api.Order, change func(o *api.Order)) api.Order {
	o = copied(o)
	change(&o)
	return o
}

// copied is o in memory of its own.
func copied(o api.Order) api.Order {
	o.Nodes, o.Edges = slices.Clone(o.Nodes), slices.Clone(o.Edges)
	return o
}

// told is an order for a test's words.
func told(o api.Order) string {
	s := fmt.Sprintf("%+v", o)
	return s[:min(len(s), 300)]
}

// What the chapter says of orders, said anew.

var (
	nameForm     = regexp.MustCompile(`\A[a-zA-Z0-9_.:-]{1,16}\z`)
	releasedForm = regexp.MustCompile(`\A1(11)*(00)*\z`)
)

// isRight is what Right must answer.
func isRight(o api.Order) bool {
	if len(o.Nodes) < 1 || len(o.Nodes) > 64 || len(o.Edges)+1 != len(o.Nodes) || !nameForm.MatchString(o.Vehicle) {
		return false
	}
	nums, seqs, flags := []int{o.Header, o.Order, o.Update}, []int{}, ""
	for i, n := range o.Nodes {
		if i > 0 {
			e := o.Edges[i-1]
			nums, seqs, flags = append(nums, e.Edge, e.Seq), append(seqs, e.Seq), flags+digit(e.Released)
		}
		nums, seqs, flags = append(nums, n.Node, n.Seq), append(seqs, n.Seq), flags+digit(n.Released)
	}
	for i, seq := range seqs {
		if seq != seqs[0]+i {
			return false
		}
	}
	return slices.Min(nums) >= 0 && slices.Max(nums) <= 1_000_000_000 && seqs[0]%2 == 0 && releasedForm.MatchString(flags)
}

func digit(b bool) string {
	if b {
		return "1"
	}
	return "0"
}

// leveled is an order whose lists without elements are nil.
func leveled(o api.Order) api.Order {
	if len(o.Nodes) == 0 {
		o.Nodes = nil
	}
	if len(o.Edges) == 0 {
		o.Edges = nil
	}
	return o
}

// isSame is what Same must answer.
func isSame(a, b api.Order) bool { return reflect.DeepEqual(leveled(a), leveled(b)) }

// rightOrders are right, each in its own way.
func rightOrders() []api.Order {
	const high = 1_000_000_000
	out := []api.Order{
		single(), line(1, 1, 0), line(1, 1, 4), line(2, 1, 0), line(2, 2, 2), line(3, 1, 8), line(3, 2, 4), line(3, 3, 0),
		line(64, 1, 0), line(64, 2, 100), line(64, 63, 0), line(64, 64, 1000), line(63, 30, 6), line(33, 33, 500_000_000),
		// the greatest numbers
		line(1, 1, high), line(2, 1, high-2), line(64, 40, high-126),
		with(line(3, 2, 0), func(o *api.Order) { o.Header, o.Order, o.Update = high, high, high }),
		with(line(3, 2, 0), func(o *api.Order) { o.Nodes[0].Node, o.Nodes[1].Node, o.Nodes[2].Node = high, high, high }),
		with(line(3, 2, 0), func(o *api.Order) { o.Edges[0].Edge, o.Edges[1].Edge = high, high }),
		// 0 everywhere
		with(line(3, 2, 0), func(o *api.Order) {
			o.Header, o.Order, o.Update, o.Nodes[0].Node, o.Nodes[1].Node, o.Nodes[2].Node, o.Edges[0].Edge, o.Edges[1].Edge = 0, 0, 0, 0, 0, 0, 0, 0
		}),
		// lists without elements that are not nil
		with(single(), func(o *api.Order) { o.Edges = []api.Way{} }),
	}
	for _, name := range []string{"a", "Z", "9", "_", ".", ":", "-", "abcdefghijklmnop", "0123456789012345", "hump", "null", "a.b:c-d_e"} {
		out = append(out, with(line(2, 2, 0), func(o *api.Order) { o.Vehicle = name }))
	}
	return out
}

// wrongNums are numbers that may not be in an order.
var wrongNums = []int{-1, -2, -1_000_000_000, 1_000_000_001, 1_000_000_002, 1 << 32, 1 << 62, math.MaxInt, math.MaxInt - 1, math.MinInt, math.MinInt + 2}

// spoiledNums are orders with a number that may not be, at each place.
func spoiledNums() []api.Order {
	var out []api.Order
	for _, n := range wrongNums {
		for _, at := range []func(o *api.Order) *int{
			func(o *api.Order) *int { return &o.Header }, func(o *api.Order) *int { return &o.Order }, func(o *api.Order) *int { return &o.Update },
			func(o *api.Order) *int { return &o.Nodes[0].Node }, func(o *api.Order) *int { return &o.Nodes[1].Node }, func(o *api.Order) *int { return &o.Nodes[2].Node },
			func(o *api.Order) *int { return &o.Nodes[0].Seq }, func(o *api.Order) *int { return &o.Nodes[1].Seq }, func(o *api.Order) *int { return &o.Nodes[2].Seq },
			func(o *api.Order) *int { return &o.Edges[0].Edge }, func(o *api.Order) *int { return &o.Edges[1].Edge },
			func(o *api.Order) *int { return &o.Edges[0].Seq }, func(o *api.Order) *int { return &o.Edges[1].Seq },
		} {
			out = append(out, with(line(3, 2, 4), func(o *api.Order) { *at(o) = n }))
		}
		// Numbers that follow one another, from one on that may not be.
		if n%2 == 0 {
			out = append(out, line(1, 1, n), line(2, 1, n), line(3, 3, n))
		}
	}
	// The last one is too great, all ahead of it are not.
	return append(out, line(2, 1, 1_000_000_000), line(3, 1, 999_999_998), line(64, 64, 1_000_000_000-124), line(3, 2, -2), line(2, 2, -4))
}

// wrongOrders are not right, each in its own way.
func wrongOrders() []api.Order {
	out := append(spoiledNums(),
		api.Order{}, api.Order{Vehicle: "v"}, api.Order{Vehicle: "v", Nodes: []api.Stop{}, Edges: []api.Way{}}, api.Order{Vehicle: "v", Edges: []api.Way{way(0, 1, true)}}, api.Order{Vehicle: "v", Edges: make([]api.Way, 63)},
		// a node too many
		line(65, 1, 0), line(65, 65, 0), line(66, 3, 0), line(1000, 1000, 0), line(100_000, 50_000, 0),
	)
	add := func(change func(o *api.Order)) { out = append(out, with(line(5, 3, 4), change)) }
	for _, name := range []string{"", "abcdefghijklmnopq", "v 1", "v/1", "+", "#", "\x00", "v1\n", "é", "\xff", "\"", strings.Repeat("v", 1<<16)} {
		add(func(o *api.Order) { o.Vehicle = name })
	}
	// an edge too many, or too few
	add(func(o *api.Order) { o.Edges = o.Edges[:3] })
	add(func(o *api.Order) { o.Edges = o.Edges[1:] })
	add(func(o *api.Order) { o.Edges = nil })
	add(func(o *api.Order) { o.Nodes = o.Nodes[:4] })
	add(func(o *api.Order) { o.Nodes = o.Nodes[1:] })
	add(func(o *api.Order) { o.Nodes = nil })
	add(func(o *api.Order) { o.Edges = append(o.Edges, way(1, 13, false)) })
	add(func(o *api.Order) { o.Nodes = append(o.Nodes, stop(1, 14, false)) })
	add(func(o *api.Order) { o.Nodes = append(o.Nodes, stop(1, 13, false)) })
	out = append(out, with(single(), func(o *api.Order) { o.Edges = []api.Way{way(0, 1, true)} }), with(single(), func(o *api.Order) { o.Nodes = append(o.Nodes, stop(4, 2, true)) }))
	// numbers that do not follow
	for i := range 5 {
		for _, by := range []int{-4, -2, -1, 1, 2, 4} {
			add(func(o *api.Order) { o.Nodes[i].Seq += by })
			if i < 4 {
				add(func(o *api.Order) { o.Edges[i].Seq += by })
				add(func(o *api.Order) { o.Edges[i].Seq += by; o.Nodes[i+1].Seq += by })
			}
		}
	}
	add(func(o *api.Order) { o.Nodes[1], o.Nodes[2] = o.Nodes[2], o.Nodes[1] })
	add(func(o *api.Order) { o.Edges[2], o.Edges[3] = o.Edges[3], o.Edges[2] })
	for _, seq := range []int{1, 3, 5, 999_999_999} {
		out = append(out, line(1, 1, seq), line(3, 2, seq-4))
	}
	return append(out, wrongReleases()...)
}

// wrongReleases are orders of three nodes that are not released as they must be.
func wrongReleases() []api.Order {
	var out []api.Order
	for bits := range 32 {
		o := line(3, 3, 0)
		for i, b := range []*bool{&o.Nodes[0].Released, &o.Edges[0].Released, &o.Nodes[1].Released, &o.Edges[1].Released, &o.Nodes[2].Released} {
			*b = bits>>i&1 == 1
		}
		if bits != 0b00001 && bits != 0b00111 && bits != 0b11111 {
			out = append(out, o)
		}
	}
	return append(out,
		with(single(), func(o *api.Order) { o.Nodes[0].Released = false }),
		with(line(64, 64, 0), func(o *api.Order) { o.Nodes[63].Released = false }),
		with(line(64, 63, 0), func(o *api.Order) { o.Nodes[63].Released = true }),
		with(line(64, 63, 0), func(o *api.Order) { o.Edges[62].Released = true }),
		with(line(64, 64, 0), func(o *api.Order) { o.Nodes[30].Released, o.Edges[29].Released = false, false }),
		with(line(64, 10, 0), func(o *api.Order) { o.Nodes[63].Released, o.Edges[62].Released = true, true }),
	)
}

// anyOrder is a right order, made by chance.
func anyOrder(chance *rand.Rand) api.Order {
	count := 1 + chance.Intn(6)
	if chance.Intn(10) == 0 {
		count = 1 + chance.Intn(64)
	}
	o := line(count, 1+chance.Intn(count), 2*chance.Intn(1_000_000_000/2-count+2))
	o.Header, o.Order, o.Update = anyNum(chance), anyNum(chance), anyNum(chance)
	for i := range o.Edges {
		o.Edges[i].Edge = anyNum(chance)
	}
	for i := range o.Nodes {
		o.Nodes[i].Node = anyNum(chance)
	}
	name := make([]byte, 1+chance.Intn(16))
	for i := range name {
		name[i] = "abcXYZ0189_.:-"[chance.Intn(14)]
	}
	o.Vehicle = string(name)
	return o
}

// anyNum is from 0 to 10^9, at the edges more often than not.
func anyNum(chance *rand.Rand) int {
	if chance.Intn(2) == 0 {
		return chance.Intn(1_000_000_001)
	}
	return []int{0, 1, 2, 9, 10, 100, 120, 999_999_999, 999_999_990, 1_000_000_000}[chance.Intn(10)]
}

// bent is o with something changed, by chance; it may be right even so.
func bent(chance *rand.Rand, o api.Order) api.Order {
	o = copied(o)
	node, edge := &api.Stop{}, &api.Way{}
	if len(o.Nodes) > 0 {
		node = &o.Nodes[chance.Intn(len(o.Nodes))]
	}
	if len(o.Edges) > 0 {
		edge = &o.Edges[chance.Intn(len(o.Edges))]
	}
	switch chance.Intn(8) {
	case 0:
		*[]*int{&o.Header, &o.Order, &o.Update, &node.Node, &edge.Edge}[chance.Intn(5)] = chance.Intn(5) - 2
	case 1:
		*[]*int{&o.Header, &o.Order, &o.Update, &node.Node, &edge.Edge}[chance.Intn(5)] = 999_999_998 + chance.Intn(5)
	case 2:
		*[]*int{&node.Seq, &edge.Seq}[chance.Intn(2)] += chance.Intn(5) - 2
	case 3:
		*[]*bool{&node.Released, &edge.Released}[chance.Intn(2)] = chance.Intn(2) == 0
	case 4:
		node.Released, edge.Released = edge.Released, node.Released
	case 5:
		o.Vehicle += []string{"", "a", " ", "/"}[chance.Intn(4)]
	case 6:
		o.Nodes = o.Nodes[:len(o.Nodes)-min(len(o.Nodes), chance.Intn(2))]
		o.Edges = o.Edges[:len(o.Edges)-min(len(o.Edges), chance.Intn(2))]
	case 7:
		o.Nodes = append(o.Nodes, *node)
		o.Edges = append(o.Edges, *edge)
	}
	return o
}

// O1: Right

func wantRight(t *testing.T, o api.Order, want bool) {
	t.Helper()
	if got := order.Right(o); got != want {
		t.Errorf("Right(%s): %v; want %v", told(o), got, want)
	}
}

func TestRightTable(t *testing.T) {
	for _, o := range rightOrders() {
		wantRight(t, o, true)
	}
	for _, o := range wrongOrders() {
		wantRight(t, o, false)
	}
}

// TestRightCounts: orders of all counts of nodes, each with so many of them released.
func TestRightCounts(t *testing.T) {
	for count := 1; count <= 70; count++ {
		for released := 1; released <= count; released++ {
			o := line(count, released, 2*released)
			wantRight(t, o, count <= 64)
			for i := range count {
				wantRight(t, with(o, func(o *api.Order) { o.Nodes[i].Released = !o.Nodes[i].Released }), false)
			}
		}
	}
}

// TestRightReleases: of all ways to release four nodes and three edges just four may be.
func TestRightReleases(t *testing.T) {
	right := 0
	for bits := range 128 {
		o := line(4, 4, 2)
		for i := range 7 {
			if i%2 == 0 {
				o.Nodes[i/2].Released = bits>>i&1 == 1
			} else {
				o.Edges[i/2].Released = bits>>i&1 == 1
			}
		}
		wantRight(t, o, isRight(o))
		if order.Right(o) {
			right++
		}
	}
	if right != 4 {
		t.Errorf("%d ways may be", right)
	}
}

func TestRightMany(t *testing.T) {
	chance := rand.New(rand.NewSource(1))
	wrong := 0
	for range 30000 {
		o := anyOrder(chance)
		wantRight(t, o, true)
		for range 3 {
			o = bent(chance, o)
			wantRight(t, o, isRight(o))
			if !isRight(o) {
				wrong++
			}
		}
	}
	if wrong < 20000 || wrong > 85000 {
		t.Errorf("%d of 90000 are wrong: too few, or too many", wrong)
	}
}

// TestRightBehind: what stands behind a list's length is not there.
func TestRightBehind(t *testing.T) {
	o := line(65, 65, 0)
	o.Nodes, o.Edges = o.Nodes[:64], o.Edges[:63]
	wantRight(t, o, true)
	o.Edges = o.Edges[:62]
	wantRight(t, o, false)
}

// O1: Same

func wantSame(t *testing.T, a, b api.Order, want bool) {
	t.Helper()
	if order.Same(a, b) != want || order.Same(b, a) != want {
		t.Errorf("Same(%s, %s): %v, and turned round %v; want %v", told(a), told(b), order.Same(a, b), order.Same(b, a), want)
	}
}

func TestSameTable(t *testing.T) {
	all := append(rightOrders(), wrongOrders()...)
	for _, a := range all {
		wantSame(t, a, a, true)
		wantSame(t, a, copied(a), true)
		for _, b := range all {
			wantSame(t, a, b, isSame(a, b))
		}
	}
}

// TestSameEachField: orders that differ in one field alone, or in one of one element, or in the length of a list.
func TestSameEachField(t *testing.T) {
	for _, o := range []api.Order{line(4, 2, 6), line(2, 2, 0), line(64, 10, 2), {Nodes: make([]api.Stop, 3), Edges: make([]api.Way, 3)}} {
		changes := []func(o *api.Order){
			func(o *api.Order) { o.Header++ }, func(o *api.Order) { o.Vehicle += "x" }, func(o *api.Order) { o.Vehicle = "w1" }, func(o *api.Order) { o.Order++ }, func(o *api.Order) { o.Update++ },
			func(o *api.Order) { o.Nodes = nil }, func(o *api.Order) { o.Edges = nil },
			func(o *api.Order) { o.Nodes = o.Nodes[:len(o.Nodes)-1] }, func(o *api.Order) { o.Edges = o.Edges[:len(o.Edges)-1] },
			func(o *api.Order) { o.Nodes = o.Nodes[1:] }, func(o *api.Order) { o.Edges = o.Edges[1:] },
			func(o *api.Order) { o.Nodes = append(o.Nodes, api.Stop{}) }, func(o *api.Order) { o.Edges = append(o.Edges, api.Way{}) },
		}
		for i := range o.Nodes {
			changes = append(changes, func(o *api.Order) { o.Nodes[i].Node++ }, func(o *api.Order) { o.Nodes[i].Seq-- }, func(o *api.Order) { o.Nodes[i].Released = !o.Nodes[i].Released })
		}
		for i := range o.Edges {
			changes = append(changes, func(o *api.Order) { o.Edges[i].Edge-- }, func(o *api.Order) { o.Edges[i].Seq++ }, func(o *api.Order) { o.Edges[i].Released = !o.Edges[i].Released })
		}
		for _, change := range changes {
			wantSame(t, o, with(o, change), false)
			wantSame(t, with(o, change), with(o, change), true)
		}
	}
	wantSame(t, line(2, 1, 0), with(line(2, 1, 0), func(o *api.Order) { o.Nodes[0], o.Nodes[1] = o.Nodes[1], o.Nodes[0] }), false)
	wantSame(t, line(3, 1, 0), with(line(3, 1, 0), func(o *api.Order) { o.Edges[0], o.Edges[1] = o.Edges[1], o.Edges[0] }), false)
	// The fields of one order, changed about.
	wantSame(t, api.Order{Header: 1}, api.Order{Order: 1}, false)
	wantSame(t, api.Order{Header: 1}, api.Order{Update: 1}, false)
	wantSame(t, api.Order{Order: 1}, api.Order{Update: 1}, false)
}

func TestSameEmptyLists(t *testing.T) {
	for _, a := range []api.Order{single(), {}, {Vehicle: "v", Header: -1}} {
		a.Edges = nil
		b := copied(a)
		b.Edges = make([]api.Way, 0, 4)
		wantSame(t, a, b, true)
		if len(a.Nodes) == 0 {
			b.Nodes = []api.Stop{}
			wantSame(t, a, b, true)
		}
	}
	o := line(3, 2, 0)
	roomy := o
	roomy.Nodes, roomy.Edges = append(slices.Clone(o.Nodes), stop(1, 2, true))[:3], append(slices.Clone(o.Edges), way(1, 2, true))[:2]
	wantSame(t, o, roomy, true)
}

func TestSameMany(t *testing.T) {
	chance := rand.New(rand.NewSource(2))
	for range 20000 {
		a := anyOrder(chance)
		b, c := bent(chance, a), bent(chance, a)
		wantSame(t, a, copied(a), true)
		wantSame(t, a, b, isSame(a, b))
		wantSame(t, b, c, isSame(b, c))
	}
}

// O1: Base

func wantBase(t *testing.T, o api.Order, want int) {
	t.Helper()
	if got := order.Base(o); got != want {
		t.Errorf("Base(%s): %d; want %d", told(o), got, want)
	}
}

func TestBase(t *testing.T) {
	for count := 1; count <= 70; count++ {
		for released := 1; released <= count; released++ {
			wantBase(t, line(count, released, 0), released)
		}
	}
	wantBase(t, single(), 1)
	// Orders that are not right have nodes that are released, too.
	wantBase(t, api.Order{}, 0)
	wantBase(t, api.Order{Nodes: []api.Stop{}}, 0)
	wantBase(t, api.Order{Nodes: make([]api.Stop, 100)}, 0)
	wantBase(t, api.Order{Edges: []api.Way{way(1, 1, true), way(2, 2, true)}}, 0)
	wantBase(t, api.Order{Nodes: []api.Stop{stop(1, 0, true), stop(1, 0, false), stop(1, 0, true), stop(-1, -1, true)}}, 3)
	wantBase(t, api.Order{Nodes: []api.Stop{stop(0, 0, false), stop(0, 0, true)}, Edges: make([]api.Way, 5)}, 1)
	wantBase(t, with(line(5, 3, 0), func(o *api.Order) { o.Edges[3].Released = true; o.Edges[0].Released = false }), 3)
	wantBase(t, api.Order{Nodes: []api.Stop{stop(1, 0, true), stop(2, 2, true)}[:1]}, 1)
}
