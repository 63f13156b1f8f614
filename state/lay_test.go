package state_test

import (
	"fmt"
	"hash/fnv"
	"math/rand"
	"testing"

	"humpyard/api"
	"humpyard/state"
)

// sealed is a text with its sum behind, said anew.
func sealed(text string) string {
	sum := fnv.New32a()
	sum.Write([]byte(text))
	return fmt.Sprintf("%s#%08x", text, sum.Sum32())
}

// textOf is the text of a state that is right, not sealed, said anew.
func textOf(s api.State) string {
	return fmt.Sprintf(`{"headerId":%d,"boot":%d,"serialNumber":"%s","orderId":%d,"orderUpdateId":%d,"live":%t,"lastNodeId":%d,"lastNodeSequenceId":%d,"driving":%t,"accepted":%d}`,
		s.Header, s.Boot, s.Vehicle, s.Order, s.Update, s.Live, s.Node, s.Seq, s.Driving, s.Accepted)
}

// A2

func wantLay(t *testing.T, s api.State, want string, errno api.Errno) {
	t.Helper()
	if got, e := state.Lay(s); got != want || e != errno {
		t.Errorf("Lay(%+v): %q, %d; want %q, %d", s, got, e, want, errno)
	}
}

func TestLayTexts(t *testing.T) {
	wantLay(t, example(), `{"headerId":1,"boot":2,"serialNumber":"v","orderId":3,"orderUpdateId":4,"live":true,"lastNodeId":5,"lastNodeSequenceId":6,"driving":false,"accepted":7}#`+exampleSum, api.OK)
	wantLay(t, some(), sealed(someText), api.OK)
	wantLay(t, api.State{Vehicle: "a.B:9-_"}, sealed(`{"headerId":0,"boot":0,"serialNumber":"a.B:9-_","orderId":0,"orderUpdateId":0,"live":false,"lastNodeId":0,"lastNodeSequenceId":0,"driving":false,"accepted":0}`), api.OK)
	high := api.State{Header: 1_000_000_000, Boot: 999_999_999, Vehicle: "abcdefghijklmnop", Order: 999_999_990, Update: 100_000_000, Live: true, Node: 1_000_000_000, Seq: 1_000_000_000, Driving: true, Accepted: 10}
	wantLay(t, high, sealed(`{"headerId":1000000000,"boot":999999999,"serialNumber":"abcdefghijklmnop","orderId":999999990,"orderUpdateId":100000000,"live":true,"lastNodeId":1000000000,"lastNodeSequenceId":1000000000,"driving":true,"accepted":10}`), api.OK)
}

// exampleSum is the sum of the example's text.
const exampleSum = "d5656987"

func TestLayTable(t *testing.T) {
	for _, s := range rightStates() {
		wantLay(t, s, sealed(textOf(s)), api.OK)
	}
	for _, s := range wrongStates() {
		wantLay(t, s, "", api.ErrArg)
	}
}

func TestLayMany(t *testing.T) {
	chance := rand.New(rand.NewSource(2))
	for range 10000 {
		s := anyState(chance)
		wantLay(t, s, sealed(textOf(s)), api.OK)
		if s = bent(chance, s); isRight(s) {
			wantLay(t, s, sealed(textOf(s)), api.OK)
		} else {
			wantLay(t, s, "", api.ErrArg)
		}
	}
}

// TestLayUnlike: unlike states have unlike texts.
func TestLayUnlike(t *testing.T) {
	seen := map[string]api.State{}
	for _, s := range rightStates() {
		text, _ := state.Lay(s)
		if other, there := seen[text]; there && other != s {
			t.Errorf("%+v and %+v are both laid as %q", s, other, text)
		}
		seen[text] = s
	}
}
