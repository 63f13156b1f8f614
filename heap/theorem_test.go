package heap_test

import (
	"math/rand"
	"slices"
	"testing"

	"humpyard/heap"
)

// B2

// emptied is what is popped until there is nothing.
func emptied(h *heap.Heap) []item {
	var all []item
	for {
		key, thing, ok := h.Pop()
		if !ok {
			return all
		}
		all = append(all, item{key, thing})
	}
}

// wantSorted: what is popped until there is nothing is what was pushed, in order.
func wantSorted(t *testing.T, items []item) {
	t.Helper()
	h := heap.New()
	for _, x := range items {
		h.Push(x.key, x.thing)
	}
	wantLen(t, h, len(items))
	want := slices.SortedFunc(slices.Values(items), ahead)
	got := emptied(h)
	if !slices.Equal(got, want) {
		t.Fatalf("popped of %d: %v; want %v", len(items), short(got), short(want))
	}
	wantNone(t, h)
}

// short is items as they are told.
func short(items []item) []item { return items[:min(len(items), 50)] }

// TestSortedEach: each order of few items, some of which are the same.
func TestSortedEach(t *testing.T) {
	for _, items := range [][]item{
		{},
		{{1, 1}},
		{{1, 1}, {1, 1}},
		{{1, 2}, {2, 1}, {2, 2}, {2, 2}},
		{{0, 0}, {0, 1}, {0, -1}, {1, 0}, {-1, 0}, {1, 0}},
		{{least, most}, {least, least}, {most, least}, {most, most}, {0, most}, {0, least}, {-1, 0}, {1, 0}},
	} {
		eachOrder(items, len(items), func() { wantSorted(t, items) })
	}
}

// eachOrder hands over each order of the first n items.
func eachOrder(items []item, n int, do func()) {
	if n <= 1 {
		do()
		return
	}
	for i := range n {
		items[i], items[n-1] = items[n-1], items[i]
		eachOrder(items, n-1, do)
		items[i], items[n-1] = items[n-1], items[i]
	}
}

// TestSortedSizes: heaps of each size, so that each shape of its last level is met.
func TestSortedSizes(t *testing.T) {
	chance := rand.New(rand.NewSource(5))
	for size := range 140 {
		var up, same, few, mixed []item
		for i := range size {
			up = append(up, item{i / 3, i})
			same = append(same, item{4, 2})
			few = append(few, item{chance.Intn(4), chance.Intn(4)})
			mixed = append(mixed, item{int(chance.Uint64()), int(chance.Uint64())})
		}
		for _, items := range [][]item{up, same, few, mixed} {
			wantSorted(t, items)
			slices.Reverse(items)
			wantSorted(t, items)
		}
	}
}

// TestSortedMany: many items, in orders that a heap may be slow at, are soon popped.
func TestSortedMany(t *testing.T) {
	const size = 200000
	chance := rand.New(rand.NewSource(6))
	var up, down, same, few, mixed []item
	for i := range size {
		up = append(up, item{i, -i})
		down = append(down, item{-i, i})
		same = append(same, item{1, 1})
		few = append(few, item{i % 3, i % 7})
		mixed = append(mixed, item{int(chance.Uint64()), int(chance.Uint64())})
	}
	for _, items := range [][]item{up, down, same, few, mixed} {
		wantSorted(t, items)
	}
}

// TestSortedBehindPops: what is left behind pushes and pops is what was pushed and not popped, in order.
func TestSortedBehindPops(t *testing.T) {
	chance := rand.New(rand.NewSource(7))
	for range 300 {
		h, left := heap.New(), map[item]int{}
		for range chance.Intn(500) {
			if chance.Intn(3) > 0 {
				x := item{chance.Intn(30), chance.Intn(30)}
				h.Push(x.key, x.thing)
				left[x]++
			} else if key, thing, ok := h.Pop(); ok {
				left[item{key, thing}]--
			}
		}
		popped := emptied(h)
		if !slices.IsSortedFunc(popped, ahead) {
			t.Fatalf("popped: %v", short(popped))
		}
		for _, x := range popped {
			left[x]--
		}
		for x, n := range left {
			if n != 0 {
				t.Fatalf("%v was pushed %d times more than it was popped", x, n)
			}
		}
	}
}
