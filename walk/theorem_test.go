package walk_test

import (
	"math/rand"
	"slices"
	"testing"

	"humpyard/api"
	"humpyard/walk"
)

// W6

// wantWay: a path is one way in a layout.
func wantWay(t *testing.T, l api.Layout, path []int) {
	t.Helper()
	if !isPath(path) || path[0] >= l.Nodes {
		t.Fatalf("in %s %s is no way", told(l), told(path))
	}
	for i := 1; i < len(path); i += 2 {
		n := path[i] - 1000
		if n >= len(l.Edges) || l.Edges[n].From != path[i-1] || l.Edges[n].To != path[i+1] {
			t.Fatalf("in %s %s is no way: at %d", told(l), told(path), i)
		}
	}
}

// wantOneWay: where an order follows one of its own number, and both fit, their bases are one way, put together where the one ends and the other begins.
func wantOneWay(t *testing.T, l api.Layout, a, b api.Order) bool {
	t.Helper()
	if a.Order != b.Order || !walk.Follows(a, b) || !walk.Fits(l, a) || !walk.Fits(l, b) {
		return false
	}
	ahead, behind := walk.Base(a), walk.Base(b)
	if ahead[len(ahead)-1] != behind[0] {
		t.Fatalf("%s follows %s, and begins elsewhere", told(b), told(a))
	}
	wantWay(t, l, append(ahead, behind[1:]...))
	return true
}

// wantGoesOn: of orders in which nothing is found, those of one number are one way together, with running numbers; each number begins at a node to which the one ahead leads.
func wantGoesOn(t *testing.T, l api.Layout, all []api.Order) {
	t.Helper()
	var way []int
	for i, o := range all {
		base := walk.Base(o)
		switch {
		case i == 0:
			way = base
		case all[i-1].Order == o.Order:
			if !wantOneWay(t, l, all[i-1], o) {
				t.Fatalf("%s does not follow %s", told(o), told(all[i-1]))
			}
			way = append(way, base[1:]...)
		default:
			if !slices.Contains(walk.Stops(way), base[0]) {
				t.Fatalf("%s does not lead to where %s begins", told(way), told(o))
			}
			way = base
		}
		wantWay(t, l, way)
		if i > 0 && (o.Header <= all[i-1].Header || o.Vehicle != all[0].Vehicle) {
			t.Fatalf("%s behind %s", told(o), told(all[i-1]))
		}
	}
}

func TestTheoremFollows(t *testing.T) {
	chance := rand.New(rand.NewSource(6))
	found, none := 0, 0
	for range 6000 {
		l := anyLayout(chance)
		all := anyLog(chance, l, 8)
		wantGoesOn(t, l, all)
		all = bent(chance, all)
		if walk.Check(l, all) == -1 {
			wantGoesOn(t, l, all)
			none++
		}
		for i := range all {
			for j := range all {
				if wantOneWay(t, l, all[i], all[j]) {
					found++
				}
			}
		}
	}
	if found < 1000 || none < 1000 {
		t.Errorf("%d pairs follow, %d orders' lists do: too few", found, none)
	}
}

// TestTheoremBegins: an order's base is its path's beginning.
func TestTheoremBegins(t *testing.T) {
	chance := rand.New(rand.NewSource(7))
	for range 4000 {
		l := anyLayout(chance)
		path := anyWalk(chance, l, chance.Intn(l.Nodes), 90)
		count := min((len(path)+1)/2, 64)
		released := 1 + chance.Intn(count+3)
		o, ok := walk.Order(named(1, "v", 2, 3), path, 2*chance.Intn(9), released)
		if !ok || !slices.Equal(walk.Base(o), path[:2*min(released, count)-1]) {
			t.Fatalf("of %s, of which %d are released: %s", told(path), released, told(o))
		}
		wantFits(t, l, o, true)
		wantCheck(t, l, 0, o)
		wantWay(t, l, walk.Base(o))
		if stops := walk.Stops(walk.Base(o)); len(stops) != min(released, count) || stops[0] != o.Nodes[0].Node {
			t.Fatalf("Stops of Base(%s): %v", told(o), stops)
		}
		// The path's end follows it, from where its base ends.
		last := 2 * (min(released, count) - 1)
		next, ok := walk.Order(named(2, "v", 2, 4), path[last:], o.Nodes[0].Seq+last, 1+chance.Intn(count))
		if !ok || !wantOneWay(t, l, o, next) {
			t.Fatalf("%s does not follow %s", told(next), told(o))
		}
	}
}
