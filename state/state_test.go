package state_test

import (
	"math"
	"math/rand"
	"regexp"
	"strings"
	"testing"

	"humpyard/api"
	"humpyard/state"
)

// States, as briefly as they can be said.

// some is a state that is right, of which no two numbers are the same.
func some() api.State {
	return api.State{Header: 7, Boot: 2, Vehicle: "v1", Order: 3, Update: 1, Live: true, Node: 5, Seq: 4, Driving: true, Accepted: 6}
}

// example is a state as a vehicle tells it that stands at a node.
func example() api.State {
	return api.State{Header: 1, Boot: 2, Vehicle: "v", Order: 3, Update: 4, Live: true, Node: 5, Seq: 6, Accepted: 7}
}

// with is s with a change.
func with(s api.State, change func(s *api.State)) api.State {
	change(&s)
	return s
}

// number is a state's number: its name in texts, and where it is.
type number struct {
	name string
	at   func(s *api.State) *int
}

func (x number) of(s api.State) int { return *x.at(&s) }

// numbers are all of them.
var numbers = []number{
	{"headerId", func(s *api.State) *int { return &s.Header }},
	{"boot", func(s *api.State) *int { return &s.Boot }},
	{"orderId", func(s *api.State) *int { return &s.Order }},
	{"orderUpdateId", func(s *api.State) *int { return &s.Update }},
	{"lastNodeId", func(s *api.State) *int { return &s.Node }},
	{"lastNodeSequenceId", func(s *api.State) *int { return &s.Seq }},
	{"accepted", func(s *api.State) *int { return &s.Accepted }},
}

// setting is s with one of its numbers set.
func setting(s api.State, x number, n int) api.State {
	*x.at(&s) = n
	return s
}

// names are names, wrongNames texts that are none.
var (
	names      = []string{"a", "z", "A", "Z", "0", "9", "_", ".", ":", "-", "v1", "true", "null", "7", "hump", "a.B:9-_", "abcdefghijklmno", "abcdefghijklmnop", "0123456789012345", "................"}
	wrongNames = []string{"", "abcdefghijklmnopq", "01234567890123456", "v 1", " v", "v ", "v/1", "/", "+", "#", "v#", "\x00", "v1\n", "\t", "\x7f", "é", "\xff", "\"", "\\", "{}", "*", ",", "\ufffd", "\uff41", strings.Repeat("v", 32), strings.Repeat("v", 1<<16)}
)

// What the chapter says of states, said anew.

var nameForm = regexp.MustCompile(`\A[a-zA-Z0-9_.:-]{1,16}\z`)

// isRight is what Right must answer.
func isRight(s api.State) bool {
	for _, x := range numbers {
		if n := x.of(s); n < 0 || n > 1_000_000_000 {
			return false
		}
	}
	if s.Driving && !s.Live {
		return false
	}
	return s.Seq&1 == 0 && nameForm.MatchString(s.Vehicle)
}

// rightStates are right, each in its own way.
func rightStates() []api.State {
	out := []api.State{some(), example(), {Vehicle: "v"}, {Vehicle: "v", Live: true}, {Vehicle: "v", Live: true, Driving: true}}
	for _, live := range []api.State{{}, {Live: true}, {Live: true, Driving: true}} {
		s := some()
		s.Live, s.Driving = live.Live, live.Driving
		out = append(out, s)
	}
	low, high := api.State{Vehicle: "v"}, api.State{Vehicle: "v"}
	for _, x := range numbers {
		for _, n := range []int{0, 2, 10, 120, 1000, 400_000_000, 999_999_990, 999_999_998, 1_000_000_000} {
			out = append(out, setting(some(), x, n), setting(low, x, n))
		}
		if x.name != "lastNodeSequenceId" {
			out = append(out, setting(some(), x, 1), setting(some(), x, 999_999_999))
		}
		*x.at(&high) = 1_000_000_000
	}
	out = append(out, high)
	for _, name := range names {
		out = append(out, with(some(), func(s *api.State) { s.Vehicle = name }))
	}
	return out
}

// wrongNums are numbers that may not be in a state.
var wrongNums = []int{-1, -2, -1_000_000_000, -1_000_000_001, 1_000_000_001, 1_000_000_002, 1 << 31, 1 << 32, 1<<32 + 2, 1 << 62, math.MaxInt - 1, math.MaxInt, math.MinInt, math.MinInt + 1}

// wrongStates are not right, each in its own way.
func wrongStates() []api.State {
	out := []api.State{{}, {Live: true}, {Live: true, Driving: true}, {Vehicle: "v", Driving: true}, {Driving: true}}
	for _, x := range numbers {
		for _, n := range wrongNums {
			out = append(out, setting(some(), x, n), setting(example(), x, n), setting(api.State{Vehicle: "v"}, x, n))
		}
	}
	for _, name := range wrongNames {
		out = append(out, with(some(), func(s *api.State) { s.Vehicle = name }), api.State{Vehicle: name})
	}
	for _, seq := range []int{1, 3, 5, 7, 101, 499_999_999, 999_999_997, 999_999_999, -1, -3, 1_000_000_001} {
		out = append(out, with(some(), func(s *api.State) { s.Seq = seq }), api.State{Vehicle: "v", Seq: seq})
	}
	return append(out, with(some(), func(s *api.State) { s.Live = false }), with(example(), func(s *api.State) { s.Live, s.Driving = false, true }))
}

// anyState is a right state, made by chance.
func anyState(chance *rand.Rand) api.State {
	var s api.State
	for _, x := range numbers {
		*x.at(&s) = anyNum(chance)
	}
	s.Seq -= s.Seq % 2
	s.Live = chance.Intn(3) > 0
	s.Driving = s.Live && chance.Intn(2) == 0
	name := make([]byte, 1+chance.Intn(16))
	for i := range name {
		name[i] = "abcXYZ0189_.:-"[chance.Intn(14)]
	}
	s.Vehicle = string(name)
	return s
}

// anyNum is from 0 to 10^9, at the edges more often than not.
func anyNum(chance *rand.Rand) int {
	if chance.Intn(2) == 0 {
		return chance.Intn(1_000_000_001)
	}
	return []int{0, 1, 2, 9, 10, 100, 120, 999_999_999, 999_999_990, 1_000_000_000}[chance.Intn(10)]
}

// bent is s with something changed, by chance; it may be right even so.
func bent(chance *rand.Rand, s api.State) api.State {
	x := numbers[chance.Intn(len(numbers))]
	switch chance.Intn(6) {
	case 0:
		*x.at(&s) = chance.Intn(5) - 2
	case 1:
		*x.at(&s) = 999_999_998 + chance.Intn(5)
	case 2:
		s.Seq += chance.Intn(3) - 1
	case 3:
		s.Live = !s.Live
	case 4:
		s.Driving = !s.Driving
	case 5:
		s.Vehicle += []string{"", "a", " ", "/", "\x00"}[chance.Intn(5)]
	}
	return s
}

// A1

func wantRight(t *testing.T, s api.State, want bool) {
	t.Helper()
	if got := state.Right(s); got != want {
		t.Errorf("Right(%+v): %v; want %v", s, got, want)
	}
}

func TestRightTable(t *testing.T) {
	for _, s := range rightStates() {
		wantRight(t, s, true)
	}
	for _, s := range wrongStates() {
		wantRight(t, s, false)
	}
}

// TestRightNumbers: each number by itself, around both bounds.
func TestRightNumbers(t *testing.T) {
	for _, x := range numbers {
		for by := -10; by <= 10; by++ {
			even := x.name != "lastNodeSequenceId" || by%2 == 0
			wantRight(t, setting(some(), x, by), by >= 0 && even)
			wantRight(t, setting(some(), x, 1_000_000_000+by), by <= 0 && even)
		}
	}
}

// TestRightFlags: each way to set both flags.
func TestRightFlags(t *testing.T) {
	for _, x := range []struct{ live, driving, want bool }{{false, false, true}, {true, false, true}, {true, true, true}, {false, true, false}} {
		for _, s := range []api.State{some(), {Vehicle: "v"}} {
			s.Live, s.Driving = x.live, x.driving
			wantRight(t, s, x.want)
		}
	}
}

// TestRightNames: each byte, alone and among others; each length.
func TestRightNames(t *testing.T) {
	for b := range 256 {
		for _, name := range []string{string([]byte{byte(b)}), "v" + string([]byte{byte(b)}), "abcdefg" + string([]byte{byte(b)}) + "hijklmno"} {
			wantRight(t, with(some(), func(s *api.State) { s.Vehicle = name }), nameForm.MatchString(name))
		}
	}
	for size := range 100 {
		wantRight(t, api.State{Vehicle: strings.Repeat("v", size)}, size >= 1 && size <= 16)
	}
}

func TestRightMany(t *testing.T) {
	chance := rand.New(rand.NewSource(1))
	wrong := 0
	for range 40000 {
		s := anyState(chance)
		wantRight(t, s, true)
		for range 3 {
			s = bent(chance, s)
			wantRight(t, s, isRight(s))
			if !isRight(s) {
				wrong++
			}
		}
	}
	if wrong < 20000 || wrong > 110000 {
		t.Errorf("%d of 120000 are wrong: too few, or too many", wrong)
	}
}

// A4

func wantNewer(t *testing.T, a, b api.State, want bool) {
	t.Helper()
	if got := state.Newer(a, b); got != want {
		t.Errorf("Newer(%+v, %+v): %v; want %v", a, b, got, want)
	}
}

// told is a state of a start and with a header.
func told(boot, header int) api.State {
	s := some()
	s.Boot, s.Header = boot, header
	return s
}

func TestNewerExample(t *testing.T) {
	wantNewer(t, told(1, 5), told(2, 0), false)
	wantNewer(t, told(2, 0), told(1, 5), true)
}

// TestNewerTable: of states that are told one behind the other each is newer than all ahead of it, and than none behind it, nor than itself.
func TestNewerTable(t *testing.T) {
	line := []api.State{
		told(0, 0), told(0, 1), told(0, 2), told(0, 1_000_000_000),
		told(1, 0), told(1, 4), told(1, 5), told(1, 999_999_999),
		told(2, 0), told(2, 5), told(2, 6), told(120, 3), told(121, 2), told(122, 1), told(123, 0),
		told(999_999_999, 1_000_000_000), told(1_000_000_000, 0), told(1_000_000_000, 999_999_999), told(1_000_000_000, 1_000_000_000),
	}
	for i, a := range line {
		for k, b := range line {
			wantNewer(t, a, b, i > k)
		}
	}
}

// TestNewerOther: what else is told counts for nothing.
func TestNewerOther(t *testing.T) {
	others := append(rightStates(), wrongStates()...)
	for _, x := range []struct {
		a, b api.State
		want bool
	}{{told(1, 5), told(1, 4), true}, {told(1, 4), told(1, 5), false}, {told(1, 5), told(1, 5), false}, {told(1, 5), told(2, 0), false}, {told(2, 0), told(1, 5), true}} {
		for _, other := range others {
			a, b := other, other
			a.Boot, a.Header, b.Boot, b.Header = x.a.Boot, x.a.Header, x.b.Boot, x.b.Header
			wantNewer(t, a, x.b, x.want)
			wantNewer(t, x.a, b, x.want)
			wantNewer(t, a, b, x.want)
		}
	}
}

// TestNewerWrong: numbers that may not be are held against each other as any other ones.
func TestNewerWrong(t *testing.T) {
	line := []int{math.MinInt, math.MinInt + 1, -1_000_000_001, -2, -1, 0, 1, 1_000_000_000, 1_000_000_001, 1 << 32, math.MaxInt - 1, math.MaxInt}
	for i, n := range line {
		for k, m := range line {
			wantNewer(t, told(n, 3), told(m, 3), i > k)
			wantNewer(t, told(3, n), told(3, m), i > k)
			wantNewer(t, told(n, m), told(m, n), i > k)
			wantNewer(t, told(n, 0), told(m, 9), i > k)
		}
	}
}
