package walk_test

import (
	"math"
	"math/rand"
	"slices"
	"testing"

	"humpyard/api"
	"humpyard/walk"
)

// W5

func wantStops(t *testing.T, path []int, want ...int) {
	t.Helper()
	if got := walk.Stops(path); !slices.Equal(got, want) {
		t.Errorf("Stops(%s): %v; want %v", told(path), got, want)
	}
}

func TestStops(t *testing.T) {
	wantStops(t, nil)
	wantStops(t, []int{})
	wantStops(t, []int{3}, 3)
	wantStops(t, []int{0, 1003, 4}, 0, 4)
	wantStops(t, []int{0, 1003, 4, 1000, 0, 1003, 4}, 0, 4, 0, 4)
	// Whether it is a path or not: the place alone counts.
	wantStops(t, []int{0, 1003}, 0)
	wantStops(t, []int{1003, 0, 1004, 5}, 1003, 1004)
	wantStops(t, []int{-1, -2, math.MinInt, 0, math.MaxInt, 1000, 1000}, -1, math.MinInt, math.MaxInt, 1000)
	// A path may be longer than an order.
	for _, count := range []int{126, 127, 128, 129, 130, 131, 20001} {
		path, want := make([]int, count), []int(nil)
		for i := range path {
			if path[i] = i; i%2 == 0 {
				want = append(want, i)
			}
		}
		wantStops(t, path, want...)
	}
}

// named is the numbers that Order takes from its first argument, with lists of which it takes nothing.
func named(header int, name string, number, update int) api.Order {
	return api.Order{Header: header, Vehicle: name, Order: number, Update: update, Nodes: []api.Stop{{Node: 7, Seq: 7}, {Node: 8}}, Edges: []api.Way{{Edge: 9, Seq: 9, Released: true}}}
}

func wantOrder(t *testing.T, head api.Order, path []int, seq, released int, want api.Order, ok bool) {
	t.Helper()
	if got, is := walk.Order(head, path, seq, released); is != ok || !isSame(got, want) {
		t.Errorf("Order(%s, %s, %d, %d): %s, %t; want %s, %t", told(head), told(path), seq, released, told(got), is, told(want), ok)
	}
}

func wantNoOrder(t *testing.T, path []int, seq, released int) {
	t.Helper()
	wantOrder(t, named(1, "v", 2, 3), path, seq, released, api.Order{}, false)
}

func TestOrderExample(t *testing.T) {
	wantOrder(t, named(4, "v1", 5, 6), []int{0, 1003, 4}, 6, 1, api.Order{
		Header: 4, Vehicle: "v1", Order: 5, Update: 6,
		Nodes: []api.Stop{{Node: 0, Seq: 6, Released: true}, {Node: 4, Seq: 8}},
		Edges: []api.Way{{Edge: 3, Seq: 7}},
	}, true)
}

func TestOrderPlain(t *testing.T) {
	wantOrder(t, named(4, "v1", 5, 6), []int{0, 1003, 4, 1000, 7}, 2, 2, api.Order{
		Header: 4, Vehicle: "v1", Order: 5, Update: 6,
		Nodes: []api.Stop{{Node: 0, Seq: 2, Released: true}, {Node: 4, Seq: 4, Released: true}, {Node: 7, Seq: 6}},
		Edges: []api.Way{{Edge: 3, Seq: 3, Released: true}, {Edge: 0, Seq: 5}},
	}, true)
	wantOrder(t, named(0, "v", 0, 0), []int{3}, 0, 1, api.Order{Vehicle: "v", Nodes: []api.Stop{{Node: 3, Seq: 0, Released: true}}}, true)
	// as many as there are, and more
	all := api.Order{Vehicle: "v", Nodes: []api.Stop{{Node: 1, Seq: 0, Released: true}, {Node: 1, Seq: 2, Released: true}}, Edges: []api.Way{{Edge: 8, Seq: 1, Released: true}}}
	for _, released := range []int{2, 3, 64, 65, 1 << 32, 1<<32 + 1, math.MaxInt} {
		wantOrder(t, named(0, "v", 0, 0), []int{1, 1008, 1}, 0, released, all, true)
	}
	for _, released := range []int{0, -1, -2, 1 - 1<<32, math.MinInt, math.MinInt + 1} {
		wantNoOrder(t, []int{1, 1008, 1}, 0, released)
		wantNoOrder(t, []int{1}, 0, released)
		wantNoOrder(t, round(129, 4), 0, released)
	}
}

// TestOrderElements: at each place of a path what may be a node, or an edge, and what may not.
func TestOrderElements(t *testing.T) {
	nodes := map[int]bool{0: true, 1: true, 39: true, 40: true, 998: true, 999: true, 1000: false, 1001: false, -1: false, -1000: false, 1 << 32: false, math.MaxInt: false, math.MinInt: false}
	edges := map[int]bool{1000: true, 1001: true, 1119: true, 1120: true, 1_000_000_999: true, 1_000_001_000: true, 1_000_001_001: false, 999: false, 998: false, 0: false, 1: false, -1: false, -1000: false, 1<<32 + 1000: false, math.MaxInt: false, math.MinInt: false, math.MinInt + 999: false, math.MinInt + 1000: false}
	for at := range 7 {
		may := nodes
		if at%2 == 1 {
			may = edges
		}
		for element, ok := range may {
			path := round(7, 4)
			path[at] = element
			want, is := orderOf(named(1, "v", 2, 3), path, 4, 2)
			if is != ok {
				t.Fatalf("%v: %t", path, is)
			}
			wantOrder(t, named(1, "v", 2, 3), path, 4, 2, want, ok)
		}
	}
}

func TestOrderNoPath(t *testing.T) {
	wantNoOrder(t, nil, 0, 1)
	wantNoOrder(t, []int{}, 0, 1)
	for count := 2; count < 300; count += 2 {
		wantNoOrder(t, round(count, 4), 0, 1)
		wantNoOrder(t, round(count+1, 4)[1:], 0, 1)
	}
	wantNoOrder(t, []int{1000}, 0, 1)
	wantNoOrder(t, []int{1000, 0, 1001}, 0, 1)
	wantNoOrder(t, []int{0, 1, 2}, 0, 1)
	wantNoOrder(t, []int{0, 1000, 1000}, 0, 1)
}

// TestOrderLong: over so many elements as there may be, and the rest of a path counts just as that.
func TestOrderLong(t *testing.T) {
	head := named(1, "v", 2, 3)
	for _, count := range []int{1, 3, 125, 127, 129, 131, 255, 20001} {
		path := round(count, 40)
		for _, released := range []int{1, 2, 63, 64, 65, 10000, 20000} {
			want := over(1, 2, 3, 10, released, path[:min(count, 127)]...)
			wantOrder(t, head, path, 10, released, want, true)
		}
	}
	// What stands behind the last element that is taken must go on as a path does; how great an edge's number is there tells nothing.
	want := over(1, 2, 3, 0, 64, round(127, 4)...)
	for at := 127; at < 131; at++ {
		for _, element := range []int{-1, 0, 999, 1000, 1_000_001_000, 1_000_001_001, math.MaxInt, math.MinInt} {
			path := round(131, 4)
			path[at] = element
			if isPath(path) {
				wantOrder(t, head, path, 0, 64, want, true)
			} else {
				wantNoOrder(t, path, 0, 64)
			}
		}
	}
}

// TestOrderNumbers: the order must be right, at each of its numbers' ends.
func TestOrderNumbers(t *testing.T) {
	path := []int{1, 1000, 2, 1001, 3}
	for _, seq := range []int{0, 2, 100, 999_999_994, 999_999_996} {
		wantOrder(t, named(1, "v", 2, 3), path, seq, 2, over(1, 2, 3, seq, 2, path...), true)
	}
	wantOrder(t, named(1, "v", 2, 3), []int{1}, 1_000_000_000, 1, over(1, 2, 3, 1_000_000_000, 1, 1), true)
	wantOrder(t, named(1, "v", 2, 3), round(129, 4), 1_000_000_000-126, 9, over(1, 2, 3, 1_000_000_000-126, 9, round(127, 4)...), true)
	wantNoOrder(t, round(129, 4), 1_000_000_000-124, 9)
	for _, seq := range []int{1, 3, 999_999_995, 999_999_998, 1_000_000_000, 1_000_000_002, 1 << 32, 1 << 62, math.MaxInt, math.MaxInt - 1, math.MaxInt - 3, -1, -2, -4, math.MinInt, math.MinInt + 2} {
		wantNoOrder(t, path, seq, 2)
	}
	for _, seq := range []int{1, 1_000_000_001, 1_000_000_002, math.MaxInt, math.MaxInt - 1, -2, math.MinInt} {
		wantNoOrder(t, []int{1}, seq, 1)
	}
	for _, n := range wrongNums {
		wantOrder(t, named(n, "v", 2, 3), path, 0, 1, api.Order{}, false)
		wantOrder(t, named(1, "v", n, 3), path, 0, 1, api.Order{}, false)
		wantOrder(t, named(1, "v", 2, n), path, 0, 1, api.Order{}, false)
	}
	for _, n := range []int{0, 1, 1_000_000_000} {
		wantOrder(t, named(n, "abcdefghijklmnop", n, n), path, 0, 1, with(over(n, n, n, 0, 1, path...), func(o *api.Order) { o.Vehicle = "abcdefghijklmnop" }), true)
	}
	for _, name := range []string{"", "abcdefghijklmnopq", "v 1", "v/1", "é", "\xff"} {
		wantOrder(t, named(1, name, 2, 3), path, 0, 1, api.Order{}, false)
	}
}

func TestOrderByChance(t *testing.T) {
	chance := rand.New(rand.NewSource(5))
	yes, no := 0, 0
	for range 20000 {
		path := anyWalk(chance, ring(40), chance.Intn(40), []int{2, 5, 80}[chance.Intn(3)])
		for range chance.Intn(3) {
			switch at := chance.Intn(len(path)); chance.Intn(4) {
			case 0:
				path[at] += []int{-1000, 1000, 960, 1, 1 << 40}[chance.Intn(5)]
			case 1:
				path = slices.Insert(path, at, chance.Intn(2000))
			case 2:
				path = slices.Delete(path, at, min(at+2, len(path)))
			}
			if len(path) == 0 {
				break
			}
		}
		head := named(chance.Intn(9)-1, []string{"v", "v", "v1", ""}[chance.Intn(4)], chance.Intn(9), chance.Intn(9))
		seq, released := chance.Intn(12)-1, chance.Intn(80)
		want, ok := orderOf(head, path, seq, released)
		wantOrder(t, head, path, seq, released, want, ok)
		if ok {
			yes++
		} else {
			no++
		}
	}
	if yes < 2000 || no < 2000 {
		t.Errorf("%d are orders, %d are not: too few", yes, no)
	}
}
