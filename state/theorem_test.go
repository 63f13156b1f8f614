package state_test

import (
	"math/rand"
	"testing"

	"humpyard/api"
	"humpyard/state"
)

// A5

// checkUndoes: Take undoes Lay, and what is taken is laid to the same.
func checkUndoes(t *testing.T, s api.State) {
	t.Helper()
	text, e := state.Lay(s)
	if e != api.OK {
		t.Fatalf("Lay(%+v): %d", s, e)
	}
	wantTake(t, text, s, api.OK)
	got, _ := state.Take(text)
	wantLay(t, got, text, api.OK)
}

func TestTakeUndoesLay(t *testing.T) {
	for _, s := range rightStates() {
		checkUndoes(t, s)
	}
	chance := rand.New(rand.NewSource(5))
	for range 10000 {
		s := anyState(chance)
		checkUndoes(t, s)
		if s = bent(chance, s); isRight(s) {
			checkUndoes(t, s)
		}
	}
}

// checkTaken: what is taken is right; it is laid, and taken again.
func checkTaken(t *testing.T, text string) bool {
	t.Helper()
	s, e := state.Take(text)
	if e != api.OK {
		wantTake(t, text, api.State{}, e)
		return false
	}
	if !state.Right(s) || !isRight(s) {
		t.Errorf("Take(%q): %+v, which is not right", text, s)
		return true
	}
	checkUndoes(t, s)
	return true
}

func TestTakenIsRight(t *testing.T) {
	chance := rand.New(rand.NewSource(6))
	right := 0
	for range 20000 {
		text := []byte(textOf(bent(chance, anyState(chance))))
		for range chance.Intn(3) {
			text[chance.Intn(len(text))] = `{}[]",:0123456789-.etrue aI`[chance.Intn(27)]
		}
		if checkTaken(t, sealed(string(text))) {
			right++
		}
	}
	if right < 2000 || right > 18000 {
		t.Errorf("%d of 20000 are taken: too few, or too many", right)
	}
	for range 50000 {
		text := make([]byte, chance.Intn(12))
		chance.Read(text)
		checkTaken(t, string(text))
		checkTaken(t, sealed(string(text)))
	}
}

// TestTakeChanged: with one byte changed nothing is taken, at every place, whatever it is then; nor with one more behind, or one less.
func TestTakeChanged(t *testing.T) {
	for _, s := range []api.State{some(), example(), {Vehicle: "abcdefghijklmnop"}} {
		text, _ := state.Lay(s)
		changed := []byte(text)
		for i, was := range changed {
			for b := range 256 {
				if changed[i] = byte(b); changed[i] != was {
					wantTake(t, string(changed), api.State{}, api.ErrSeal)
				}
			}
			changed[i] = was
		}
		for b := range 256 {
			wantTake(t, text+string([]byte{byte(b)}), api.State{}, api.ErrSeal)
		}
		for i := range text {
			wantTake(t, text[:i], api.State{}, api.ErrSeal)
		}
		wantTake(t, text, s, api.OK)
	}
	chance := rand.New(rand.NewSource(7))
	for range 20000 {
		text, _ := state.Lay(anyState(chance))
		changed := []byte(text)
		changed[chance.Intn(len(changed))] ^= byte(1 + chance.Intn(255))
		wantTake(t, string(changed), api.State{}, api.ErrSeal)
	}
}

// TestNewerIsAnOrder: of two states one is newer, unless both have one Boot and Header; what is newer than what is newer is newer.
func TestNewerIsAnOrder(t *testing.T) {
	chance := rand.New(rand.NewSource(8))
	pick := func() api.State {
		s := anyState(chance)
		s.Vehicle, s.Boot, s.Header = "v1", chance.Intn(4), chance.Intn(4)
		return s
	}
	behind, like := 0, 0
	for range 50000 {
		a, b, c := pick(), pick(), pick()
		ab, ba := state.Newer(a, b), state.Newer(b, a)
		one := a.Boot == b.Boot && a.Header == b.Header
		if ab && ba || one == (ab || ba) {
			t.Errorf("Newer of %+v and %+v: %v, and turned round %v", a, b, ab, ba)
		}
		if one {
			like++
		}
		if !ab || !state.Newer(b, c) {
			continue
		}
		behind++
		if !state.Newer(a, c) || state.Newer(c, a) {
			t.Errorf("%+v is newer than %+v, that than %+v, but not the first than the last", a, b, c)
		}
	}
	if behind < 1000 || like < 1000 {
		t.Errorf("only %d one behind the other, %d alike", behind, like)
	}
}

// Memory

// TestKeepsNothing: what is answered hangs on what is handed in alone, whatever was laid or taken ahead.
func TestKeepsNothing(t *testing.T) {
	text, _ := state.Lay(some())
	for _, s := range append(rightStates(), wrongStates()...) {
		state.Lay(s)
		state.Take(sealed("{}"))
		wantTake(t, text, some(), api.OK)
		wantLay(t, some(), text, api.OK)
		other, e := state.Lay(s)
		if e == api.OK {
			state.Take(other)
		}
		wantRefused(t, `{"headerId":7}`, api.ErrState)
	}
}
