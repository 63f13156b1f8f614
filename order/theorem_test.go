package order_test

import (
	"math/rand"
	"slices"
	"testing"

	"humpyard/api"
	"humpyard/order"
)

// O4

// checkUndoes: Take undoes Lay, and what is taken is laid to the same.
func checkUndoes(t *testing.T, o api.Order) {
	t.Helper()
	s, e := order.Lay(o)
	if e != api.OK {
		t.Fatalf("Lay(%s): %d", told(o), e)
	}
	wantTake(t, s, o, api.OK)
	got, _ := order.Take(s)
	wantLay(t, got, s, api.OK)
}

func TestTakeUndoesLay(t *testing.T) {
	for _, o := range rightOrders() {
		checkUndoes(t, o)
	}
	for count := 1; count <= 64; count++ {
		for released := 1; released <= count; released += 3 {
			checkUndoes(t, line(count, released, 2*released))
		}
	}
	chance := rand.New(rand.NewSource(5))
	for range 3000 {
		o := anyOrder(chance)
		checkUndoes(t, o)
		if o = bent(chance, o); isRight(o) {
			checkUndoes(t, o)
		}
	}
}

// checkTaken: what is taken is right; it is laid, and taken again.
func checkTaken(t *testing.T, s string) bool {
	t.Helper()
	o, e := order.Take(s)
	if e != api.OK {
		wantTake(t, s, api.Order{}, e)
		return false
	}
	if !order.Right(o) || !isRight(o) {
		t.Errorf("Take(%q): %s, which is not right", s, told(o))
		return true
	}
	checkUndoes(t, o)
	return true
}

func TestTakenIsRight(t *testing.T) {
	chance := rand.New(rand.NewSource(6))
	right := 0
	for range 8000 {
		text := []byte(textOf(bent(chance, anyOrder(chance))))
		for range chance.Intn(3) {
			text[chance.Intn(len(text))] = `{}[]",:0123456789-.etrue aI`[chance.Intn(27)]
		}
		if checkTaken(t, sealed(string(text))) {
			right++
		}
	}
	if right < 1000 || right > 7000 {
		t.Errorf("%d of 8000 are taken: too few, or too many", right)
	}
	for range 50000 {
		text := make([]byte, chance.Intn(12))
		chance.Read(text)
		checkTaken(t, string(text))
		checkTaken(t, sealed(string(text)))
	}
}

// TestTakeChanged: with one byte changed nothing is taken, at every place, whatever it is then; nor with one more behind, or one less.
func TestTakeChanged(t *testing.T) {
	for _, o := range []api.Order{single(), line(3, 2, 4)} {
		s, _ := order.Lay(o)
		changed := []byte(s)
		for i, was := range changed {
			for b := range 256 {
				if changed[i] = byte(b); changed[i] != was {
					wantTake(t, string(changed), api.Order{}, api.ErrSeal)
				}
			}
			changed[i] = was
		}
		for b := range 256 {
			wantTake(t, s+string([]byte{byte(b)}), api.Order{}, api.ErrSeal)
		}
		wantTake(t, s[:len(s)-1], api.Order{}, api.ErrSeal)
		wantTake(t, s, o, api.OK)
	}
	chance := rand.New(rand.NewSource(7))
	for range 20000 {
		s, _ := order.Lay(anyOrder(chance))
		changed := []byte(s)
		changed[chance.Intn(len(changed))] ^= byte(1 + chance.Intn(255))
		wantTake(t, string(changed), api.Order{}, api.ErrSeal)
	}
}

// Memory

// TestNothingIsWrittenInto: nor what is handed in, nor what stands behind its length.
func TestNothingIsWrittenInto(t *testing.T) {
	for _, o := range append(rightOrders(), wrongOrders()...) {
		nodes := append(slices.Clone(o.Nodes), stop(-7, -7, true), stop(-8, -8, false))
		edges := append(slices.Clone(o.Edges), way(-7, -7, true), way(-8, -8, false))
		o.Nodes, o.Edges = nodes[:len(o.Nodes)], edges[:len(o.Edges)]
		wasNodes, wasEdges, was := slices.Clone(nodes), slices.Clone(edges), copied(o)
		order.Right(o)
		order.Base(o)
		order.Same(o, o)
		order.Lay(o)
		if !slices.Equal(nodes, wasNodes) || !slices.Equal(edges, wasEdges) || !isSame(o, was) {
			t.Errorf("%s was written into", told(was))
		}
	}
}

// TestTakenIsTheOwners: whoever writes into what was taken, or grows it, changes no other answer.
func TestTakenIsTheOwners(t *testing.T) {
	for _, want := range []api.Order{single(), line(2, 1, 0), line(3, 2, 4), line(33, 10, 0), line(64, 64, 2)} {
		s, _ := order.Lay(want)
		first, _ := order.Take(s)
		second, _ := order.Take(s)
		first.Nodes[0] = stop(9, 9, false)
		for i := range first.Edges {
			first.Edges[i] = way(9, 9, false)
		}
		first.Nodes = append(first.Nodes, stop(9, 9, true))
		first.Edges = append(first.Edges, way(9, 9, true))
		if !isSame(second, want) {
			t.Errorf("writing into an answer changed another one: %s", told(second))
		}
		wantTake(t, s, want, api.OK)
	}
}

// TestKeepsNothing: what was laid, or taken, is as it was, whatever becomes of the order.
func TestKeepsNothing(t *testing.T) {
	o := line(3, 2, 4)
	s, _ := order.Lay(o)
	o.Nodes[0], o.Edges[0] = stop(-1, -1, false), way(-1, -1, false)
	wantLay(t, o, "", api.ErrArg)
	wantTake(t, s, line(3, 2, 4), api.OK)
	wantLay(t, line(3, 2, 4), s, api.OK)
}
