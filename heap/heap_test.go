package heap_test

import (
	"math"
	"math/rand"
	"slices"
	"testing"

	"humpyard/heap"
)

// item is a thing with its key.
type item struct{ key, thing int }

// least and most are the bounds of Go's int.
const least, most = math.MinInt, math.MaxInt

// ahead is below 0, if x is popped ahead of y; 0, if they are the same.
func ahead(x, y item) int {
	switch {
	case x.key < y.key, x.key == y.key && x.thing < y.thing:
		return -1
	case x == y:
		return 0
	}
	return 1
}

// bag is what must be in a heap, said anew: all items, in order.
type bag struct{ items []item }

func (b *bag) push(x item) {
	at, _ := slices.BinarySearchFunc(b.items, x, ahead)
	b.items = slices.Insert(b.items, at, x)
}

func (b *bag) pop() (item, bool) {
	if len(b.items) == 0 {
		return item{}, false
	}
	x := b.items[0]
	b.items = b.items[1:]
	return x, true
}

// both is a heap, and what must be in it.
type both struct {
	heap *heap.Heap
	bag  bag
}

func newBoth() *both { return &both{heap: heap.New()} }

func (b *both) push(t *testing.T, x item) {
	t.Helper()
	b.heap.Push(x.key, x.thing)
	b.bag.push(x)
	wantLen(t, b.heap, len(b.bag.items))
}

func (b *both) pop(t *testing.T) {
	t.Helper()
	want, ok := b.bag.pop()
	if ok {
		wantPop(t, b.heap, want)
	} else {
		wantNone(t, b.heap)
	}
	wantLen(t, b.heap, len(b.bag.items))
}

// empty pops until there is nothing.
func (b *both) empty(t *testing.T) {
	t.Helper()
	for len(b.bag.items) > 0 {
		b.pop(t)
	}
	wantNone(t, b.heap)
}

func wantLen(t *testing.T, h *heap.Heap, want int) {
	t.Helper()
	if got := h.Len(); got != want {
		t.Fatalf("Len: %d; want %d", got, want)
	}
}

func wantPop(t *testing.T, h *heap.Heap, want item) {
	t.Helper()
	if key, thing, ok := h.Pop(); key != want.key || thing != want.thing || !ok {
		t.Fatalf("Pop: %d, %d, %t; want %d, %d, true", key, thing, ok, want.key, want.thing)
	}
}

// wantNone: a heap has no things, and Pop changes nothing about that.
func wantNone(t *testing.T, h *heap.Heap) {
	t.Helper()
	for range 3 {
		wantLen(t, h, 0)
		if key, thing, ok := h.Pop(); key != 0 || thing != 0 || ok {
			t.Fatalf("Pop of nothing: %d, %d, %t", key, thing, ok)
		}
	}
	wantLen(t, h, 0)
}

// wantAll: items are pushed in turn, and popped in order until there is nothing.
func wantAll(t *testing.T, items []item) {
	t.Helper()
	b := newBoth()
	for _, x := range items {
		b.push(t, x)
	}
	b.empty(t)
}

// B1

func TestExample(t *testing.T) {
	h := heap.New()
	h.Push(5, 1)
	h.Push(3, 9)
	h.Push(3, 2)
	for i, want := range []item{{3, 2}, {3, 9}, {5, 1}} {
		wantLen(t, h, 3-i)
		wantPop(t, h, want)
	}
	wantNone(t, h)
}

func TestNew(t *testing.T) {
	h := heap.New()
	if h == nil {
		t.Fatal("New is nil")
	}
	wantNone(t, h)
	// Pop of nothing leaves nothing behind.
	h.Push(4, 2)
	wantPop(t, h, item{4, 2})
	wantNone(t, h)
}

func TestOneThing(t *testing.T) {
	h := heap.New()
	for _, n := range []int{0, 1, -1, 7, least, most} {
		for _, m := range []int{0, 1, -1, 7, least, most} {
			h.Push(n, m)
			wantLen(t, h, 1)
			wantPop(t, h, item{n, m})
			wantNone(t, h)
		}
	}
}

// TestNoughts: a thing 0 with the key 0 is a thing, too.
func TestNoughts(t *testing.T) {
	wantAll(t, []item{{0, 0}, {0, 0}, {0, 0}})
	wantAll(t, []item{{0, 0}, {-1, 0}, {0, -1}, {1, 0}, {0, 1}})
}

// TestOneKey: of things with one key the least comes first, in whatever order they came.
func TestOneKey(t *testing.T) {
	for _, key := range []int{0, 5, -5, least, most} {
		up, down, mixed := []item{}, []item{}, []item{}
		for i := range 41 {
			up = append(up, item{key, i - 20})
			down = append(down, item{key, 20 - i})
			mixed = append(mixed, item{key, i*17%41 - 20})
		}
		wantAll(t, up)
		wantAll(t, down)
		wantAll(t, mixed)
	}
}

// TestKeyAheadOfThing: a thing with a lesser key comes first, however great it is.
func TestKeyAheadOfThing(t *testing.T) {
	for _, order := range [][]item{
		{{1, most}, {2, least}},
		{{2, least}, {1, most}},
		{{1, 9}, {2, 1}, {3, 0}, {4, -9}},
		{{4, -9}, {3, 0}, {2, 1}, {1, 9}},
		{{0, 100}, {1, -100}, {-1, 1000}},
		{{10, 9}, {9, 10}, {2, 100}, {100, 2}},
	} {
		wantAll(t, order)
	}
}

// TestAsOftenAsPushed: what was pushed more than once is popped as often, and no more.
func TestAsOftenAsPushed(t *testing.T) {
	for times := range 40 {
		h := heap.New()
		h.Push(2, 2)
		for range times {
			h.Push(1, 7)
		}
		h.Push(0, 7)
		wantLen(t, h, times+2)
		wantPop(t, h, item{0, 7})
		for left := times; left > 0; left-- {
			wantLen(t, h, left+1)
			wantPop(t, h, item{1, 7})
		}
		wantPop(t, h, item{2, 2})
		wantNone(t, h)
	}
}

// TestPoppedIsGone: what was popped is in it just if it is pushed again.
func TestPoppedIsGone(t *testing.T) {
	h := heap.New()
	h.Push(1, 1)
	h.Push(2, 2)
	wantPop(t, h, item{1, 1})
	wantPop(t, h, item{2, 2})
	wantNone(t, h)
	h.Push(2, 2)
	h.Push(1, 1)
	wantPop(t, h, item{1, 1})
	h.Push(1, 1)
	wantPop(t, h, item{1, 1})
	wantPop(t, h, item{2, 2})
	wantNone(t, h)
}

// TestBounds: the least and the greatest numbers, as keys and as things, each with each.
func TestBounds(t *testing.T) {
	numbers := []int{least, least + 1, -1 << 32, -1 << 31, -2, -1, 0, 1, 2, 1<<31 - 1, 1 << 31, 1 << 32, 1 << 53, 1<<53 + 1, most - 1, most}
	var all []item
	for _, key := range numbers {
		for _, thing := range numbers {
			all = append(all, item{key, thing})
		}
	}
	// Each two of them, in both orders.
	for _, x := range all {
		for _, y := range all {
			wantAll(t, []item{x, y})
		}
	}
	wantAll(t, all)
	slices.Reverse(all)
	wantAll(t, all)
	chance := rand.New(rand.NewSource(1))
	for range 20 {
		chance.Shuffle(len(all), func(i, j int) { all[i], all[j] = all[j], all[i] })
		wantAll(t, all)
	}
}

// TestFilledAgain: a heap that was emptied is as a new one.
func TestFilledAgain(t *testing.T) {
	b := newBoth()
	for size := range 70 {
		for i := range size {
			b.push(t, item{i * 31 % 11, i * size % 13})
		}
		b.empty(t)
	}
	for size := 70; size > 0; size-- {
		for i := range size {
			b.push(t, item{-i, i})
		}
		b.empty(t)
	}
}

// TestTwoHeaps: heaps that are used in turn know nothing of one another.
func TestTwoHeaps(t *testing.T) {
	one, other := heap.New(), heap.New()
	if one == other {
		t.Fatal("New twice is one heap")
	}
	one.Push(1, 1)
	wantNone(t, other)
	other.Push(0, 5)
	other.Push(3, 5)
	wantLen(t, one, 1)
	wantPop(t, one, item{1, 1})
	wantNone(t, one)
	wantLen(t, other, 2)
	wantPop(t, other, item{0, 5})
	wantNone(t, one)
	wantPop(t, other, item{3, 5})
	wantNone(t, other)
}

func TestManyHeaps(t *testing.T) {
	chance := rand.New(rand.NewSource(2))
	var all []*both
	for range 7 {
		all = append(all, newBoth())
	}
	for range 30000 {
		anyStep(t, chance, all[chance.Intn(len(all))], 10)
	}
	for _, b := range all {
		b.empty(t)
	}
}

// anyStep is a push of small numbers, or a pop, by chance.
func anyStep(t *testing.T, chance *rand.Rand, b *both, bound int) {
	t.Helper()
	if chance.Intn(2) == 0 {
		b.pop(t)
		return
	}
	b.push(t, item{chance.Intn(bound) - bound/2, chance.Intn(bound) - bound/2})
}

// TestEachTurn: all turns of pushes and pops up to a length, with few items.
func TestEachTurn(t *testing.T) {
	items := []item{{0, 0}, {0, 1}, {1, 0}, {-1, 5}}
	steps := make([]int, 7)
	for {
		b := newBoth()
		for _, step := range steps {
			if step == len(items) {
				b.pop(t)
			} else {
				b.push(t, items[step])
			}
		}
		b.empty(t)
		at := 0
		for at < len(steps) && steps[at] == len(items) {
			steps[at] = 0
			at++
		}
		if at == len(steps) {
			return
		}
		steps[at]++
	}
}

func TestTurnsByChance(t *testing.T) {
	chance := rand.New(rand.NewSource(3))
	for _, bound := range []int{1, 2, 5, 50, 1000, 1 << 40} {
		for range 100 {
			b := newBoth()
			for range chance.Intn(400) {
				anyStep(t, chance, b, bound)
			}
			b.empty(t)
		}
	}
}

// TestTurnsOfAll: with numbers of all 64 bits.
func TestTurnsOfAll(t *testing.T) {
	chance := rand.New(rand.NewSource(4))
	b := newBoth()
	for range 20000 {
		if chance.Intn(5) < 2 {
			b.pop(t)
			continue
		}
		b.push(t, item{int(chance.Uint64()), int(chance.Uint64())})
	}
	b.empty(t)
}

// TestLen: Len changes nothing, however often it is asked.
func TestLen(t *testing.T) {
	h := heap.New()
	for i := range 100 {
		h.Push(-i, i)
		for range 3 {
			wantLen(t, h, i+1)
		}
	}
	for i := 99; i >= 0; i-- {
		wantPop(t, h, item{-i, i})
		for range 3 {
			wantLen(t, h, i)
		}
	}
}
