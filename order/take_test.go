package order_test

import (
	"fmt"
	"math/rand"
	"slices"
	"strings"
	"testing"

	"humpyard/api"
	"humpyard/order"
)

// wantTake: of a text as it comes.
func wantTake(t *testing.T, s string, want api.Order, errno api.Errno) {
	t.Helper()
	if got, e := order.Take(s); !isSame(got, want) || e != errno {
		t.Errorf("Take(%q): %s, %d; want %s, %d", s[:min(len(s), 600)], told(got), e, told(want), errno)
	}
}

// wantTaken: of a text that is sealed first.
func wantTaken(t *testing.T, text string, want api.Order) {
	t.Helper()
	wantTake(t, sealed(text), want, api.OK)
}

// wantRefused: of a text that is sealed first.
func wantRefused(t *testing.T, text string, errno api.Errno) {
	t.Helper()
	wantTake(t, sealed(text), api.Order{}, errno)
}

// small is an order of two nodes, and its text.
func small() api.Order { return line(2, 1, 4) }

const smallText = `{"headerId":7,"serialNumber":"v1","orderId":3,"orderUpdateId":1,"nodes":[{"nodeId":5,"sequenceId":4,"released":true},{"nodeId":6,"sequenceId":6,"released":false}],"edges":[{"edgeId":11,"sequenceId":5,"released":false}]}`

// swapped is smallText with the first one of a piece put into another one's place.
func swapped(t *testing.T, old, new string) string {
	t.Helper()
	if !strings.Contains(smallText, old) {
		t.Fatalf("%q is not in the text", old)
	}
	return strings.Replace(smallText, old, new, 1)
}

// O3

func TestTakeExample(t *testing.T) {
	wantTake(t, `{"headerId":1,"serialNumber":"v1","orderId":2,"orderUpdateId":0,"nodes":[{"nodeId":3,"sequenceId":0,"released":true}],"edges":[]}#`+exampleSum, single(), api.OK)
	wantTaken(t, smallText, small())
}

// TestTakeOtherOrder: in which order fields stand counts for nothing.
func TestTakeOtherOrder(t *testing.T) {
	wantTaken(t, `{"edges":[{"released":false,"sequenceId":5,"edgeId":11}],"nodes":[{"sequenceId":4,"released":true,"nodeId":5},{"released":false,"nodeId":6,"sequenceId":6}],"orderUpdateId":1,"orderId":3,"serialNumber":"v1","headerId":7}`, small())
	wantTaken(t, `{"serialNumber":"v1","edges":[],"headerId":1,"nodes":[{"released":true,"nodeId":3,"sequenceId":0}],"orderUpdateId":0,"orderId":2}`, single())
}

// TestTakeOtherFields: fields beside those that are needed count for nothing, whatever they are.
func TestTakeOtherFields(t *testing.T) {
	for _, more := range []string{
		`"x":null`, `"version":"2.0.0"`, `"":0`, `"HeaderId":8`, `"headerid":8`, `"headerId ":8`, `"Nodes":[]`, `"edge":[]`, `"nodeId":5`, `"edgeId":"x"`, `"released":7`, `"sequenceId":-1.5`,
		`"x":[{"nodeId":1},[],{}]`, `"x":{"headerId":8,"nodes":7}`, `"x":1e9,"y":true`, `"vehicle":"v2"`, `"#":"#"`,
	} {
		wantTaken(t, strings.Replace(smallText, "{", "{"+more+",", 1), small())
		wantTaken(t, strings.Replace(smallText, `,"nodes"`, ","+more+`,"nodes"`, 1), small())
		wantTaken(t, smallText[:len(smallText)-1]+","+more+"}", small())
	}
	for _, more := range []string{`"x":null`, `"nodePosition":{"x":1.5,"y":-2}`, `"actions":[]`, `"headerId":0`, `"Released":0`, `"nodeid":7`, `"":[[]]`} {
		wantTaken(t, swapped(t, `{"nodeId"`, "{"+more+`,"nodeId"`), small())
		wantTaken(t, swapped(t, `"released":true}`, `"released":true,`+more+"}"), small())
		wantTaken(t, swapped(t, `{"edgeId"`, "{"+more+`,"edgeId"`), small())
		wantTaken(t, swapped(t, `"released":false}]}`, `"released":false,`+more+"}]}"), small())
	}
	// What a node needs is in an edge a field as any other one, and the other way.
	wantTaken(t, swapped(t, `{"nodeId"`, `{"edgeId":0,"nodeId"`), small())
	wantTaken(t, swapped(t, `{"edgeId"`, `{"nodeId":"","edgeId"`), small())
}

// TestTakeOtherWays: other ways to write the same text count for nothing.
func TestTakeOtherWays(t *testing.T) {
	for old, news := range map[string][]string{
		`:7,`:                      {`:7.0,`, `:7e0,`, `:0.7e1,`, `:70E-1,`, `:700e-2,`, `:7e+0,`, `:7.000e00,`, ` : 7 ,`},
		`"headerId"`:               {`"\u0068eaderId"`, `"header\u0049\u0064"`, ` "headerId" `, "\n\t\r\"headerId\"\n"},
		`"v1"`:                     {`"\u0076\u0031"`, `"v\u0031"`, ` "v1"`},
		`"nodes":[`:                {`"n\u006fdes" : [ `},
		`"edgeId"`:                 {`"edge\u0049d"`},
		`"sequenceId":4`:           {`"sequenceId":4.0`, `"sequenceId":40e-1`, `"sequence\u0049d":4`},
		`"released":true`:          {`"released" : true `, `"\u0072eleased":true`},
		`}],"edges"`:               {` } ] , "edges"`},
		`{"headerId":7,"serialNum`: {" {\t\"headerId\"\n:\r7 , \"serialNum"},
	} {
		for _, new := range news {
			wantTaken(t, swapped(t, old, new), small())
		}
	}
	wantTaken(t, "  "+smallText+"\n", small())
	wantTaken(t, swapped(t, `"orderId":3`, `"orderId":-0`), with(small(), func(o *api.Order) { o.Order = 0 }))
	wantTaken(t, swapped(t, `"orderId":3`, `"orderId":0.00e5`), with(small(), func(o *api.Order) { o.Order = 0 }))
	wantTaken(t, swapped(t, `"orderId":3`, `"orderId":1e9`), with(small(), func(o *api.Order) { o.Order = 1_000_000_000 }))
	wantTaken(t, swapped(t, `"nodeId":5`, `"nodeId":100E7`), with(small(), func(o *api.Order) { o.Nodes[0].Node = 1_000_000_000 }))
}

func TestTakeUnsealed(t *testing.T) {
	s := sealed(smallText)
	for _, x := range []string{
		"", "#", "{}", "null", "x", smallText, smallText + "#", smallText + "#00000000", s + "#", s + " ", s + "0", " " + s, s[1:], s[:len(s)-1],
		strings.ToUpper(s), s[:len(s)-8] + strings.ToUpper(s[len(s)-8:]), strings.Replace(s, "v1", "v2", 1), strings.Replace(s, ":7", ": 7", 1), strings.Replace(s, "#", "", 1), strings.Replace(s, "#", "##", 1),
		"\x00", "\xff\xfe", strings.Repeat("[", 30000), smallText + sealed(""), sealed("")[1:],
	} {
		wantTake(t, x, api.Order{}, api.ErrSeal)
	}
	// A text that is sealed twice is opened once.
	wantTake(t, sealed(s), api.Order{}, api.ErrLex)
}

// TestTakeUnparsed: chapter 4's errors, whatever the order that is told would be.
func TestTakeUnparsed(t *testing.T) {
	deep := func(count int) string { return strings.Repeat("[", count) + strings.Repeat("]", count) }
	more := func(item string) string { return smallText[:len(smallText)-1] + `,"x":` + item + "}" }
	for _, x := range []struct {
		text  string
		errno api.Errno
	}{
		{"", api.ErrJson}, {" ", api.ErrJson}, {"{", api.ErrJson}, {"}", api.ErrJson}, {"{}{}", api.ErrJson}, {"[,]", api.ErrJson}, {"{1:2}", api.ErrJson}, {`{"a"}`, api.ErrJson}, {"null,", api.ErrJson},
		{smallText[:len(smallText)-1], api.ErrJson}, {smallText + "}", api.ErrJson}, {smallText + "1", api.ErrJson}, {smallText + smallText, api.ErrJson}, {swapped(t, `:3,`, `:3,,`), api.ErrJson}, {swapped(t, `:3,`, `:,`), api.ErrJson}, {swapped(t, `"v1"`, `"v1",`), api.ErrJson}, {swapped(t, "[", "[,"), api.ErrJson},
		{"[tru]", api.ErrLex}, {"x", api.ErrLex}, {"\x00", api.ErrLex}, {"\xff", api.ErrLex}, {"#", api.ErrLex}, {"'a'", api.ErrLex}, {"{\"a\":01}", api.ErrLex}, {"+1", api.ErrLex}, {"1e10", api.ErrLex}, {".5", api.ErrLex},
		{swapped(t, `:7`, `:07`), api.ErrLex}, {swapped(t, `:7`, `:+7`), api.ErrLex}, {swapped(t, `:7`, `:7.`), api.ErrLex}, {swapped(t, `:7`, `:1e10`), api.ErrLex}, {swapped(t, `:7`, `:0x7`), api.ErrLex}, {swapped(t, "true", "True"), api.ErrLex}, {swapped(t, "true", "truefalse"), api.ErrLex}, {swapped(t, `"v1"`, "\"v\n1\""), api.ErrLex}, {swapped(t, `"v1"`, "\"\xff\""), api.ErrLex}, {swapped(t, `"v1"`, `"\x76"`), api.ErrLex}, {swapped(t, `"v1"`, `"v1`), api.ErrLex},
		{swapped(t, `{"headerId":7`, `{"headerId":7,"headerId":7`), api.ErrTwice}, {swapped(t, `"orderId":3`, `"orderId":3,"order\u0049d":4`), api.ErrTwice}, {swapped(t, `"nodeId":5`, `"nodeId":5,"nodeId":5`), api.ErrTwice}, {`{"a":1,"a":1}`, api.ErrTwice}, {`[{"x":{"a":1,"a"`, api.ErrTwice}, {more(`0,"x":0`), api.ErrTwice}, {more(`{"y":0,"y":0}`), api.ErrTwice},
		{deep(17), api.ErrDeep}, {deep(5000), api.ErrDeep}, {more(deep(16)), api.ErrDeep},
		{deep(16), api.ErrOrder}, {more("{}"), api.OK}, {more(deep(15)), api.OK},
	} {
		if x.errno == api.OK {
			wantTaken(t, x.text, small())
		} else {
			wantRefused(t, x.text, x.errno)
		}
	}
}

// TestTakeLong: a text of 20000 bytes is taken, one with a byte more is not.
func TestTakeLong(t *testing.T) {
	long := smallText + strings.Repeat(" ", 20000-len(smallText))
	wantTaken(t, long, small())
	wantRefused(t, long+" ", api.ErrLex)
	wantRefused(t, smallText+strings.Repeat(" ", 1<<20), api.ErrLex)
	filled := strings.Replace(smallText, "{", `{"x":"`+strings.Repeat("x", 20000-len(smallText)-7)+`",`, 1)
	wantTaken(t, filled, small())
	wantRefused(t, strings.Replace(filled, "xx", "xxx", 1), api.ErrLex)
	wantRefused(t, `{"nodes":[`+strings.Repeat("0,", 9000)+`0]}`, api.ErrOrder)
	wantRefused(t, swapped(t, `"nodes":[`, `"nodes":[`+strings.Repeat(`{"nodeId":1,"sequenceId":2,"released":true},`, 400)), api.ErrOrder)
}

// TestTakeNoObject: a value that is no object tells no order.
func TestTakeNoObject(t *testing.T) {
	for _, text := range []string{"null", "true", "false", "0", "7", "-1.5", `""`, `"{}"`, "[]", "{}", "[{}]", "[" + smallText + "]", `{"order":` + smallText + "}", `["headerId",7]`} {
		wantRefused(t, text, api.ErrOrder)
	}
}

// TestTakeMissing: each field may not be missing, nor have another name.
func TestTakeMissing(t *testing.T) {
	for _, name := range []string{"headerId", "serialNumber", "orderId", "orderUpdateId", "nodes", "edges", "nodeId", "edgeId", "sequenceId", "released"} {
		for _, other := range []string{"x", "", strings.ToUpper(name), name + "s", name[1:], " " + name, `\u0000` + name} {
			wantRefused(t, swapped(t, `"`+name+`"`, `"`+other+`"`), api.ErrOrder)
		}
	}
	for _, piece := range []string{`"headerId":7,`, `"serialNumber":"v1",`, `"orderId":3,`, `"orderUpdateId":1,`, `"nodeId":5,`, `"nodeId":6,`, `"edgeId":11,`, `"sequenceId":4,`, `"sequenceId":6,`, `"sequenceId":5,`, `,"released":true`, `,"released":false`} {
		wantRefused(t, swapped(t, piece, ""), api.ErrOrder)
	}
	wantRefused(t, swapped(t, `,"edges":[{"edgeId":11,"sequenceId":5,"released":false}]`, ""), api.ErrOrder)
	wantRefused(t, `{"headerId":1,"serialNumber":"v1","orderId":2,"orderUpdateId":0,"nodes":[{"nodeId":3,"sequenceId":0,"released":true}]}`, api.ErrOrder)
	wantRefused(t, `{"headerId":1,"serialNumber":"v1","orderId":2,"orderUpdateId":0,"edges":[]}`, api.ErrOrder)
	// Nor is a stop told by an edge's name, or a way by a node's.
	wantRefused(t, swapped(t, `"nodeId":5`, `"edgeId":5`), api.ErrOrder)
	wantRefused(t, swapped(t, `"edgeId"`, `"nodeId"`), api.ErrOrder)
	wantRefused(t, swapped(t, `"nodes"`, `"edges "`), api.ErrOrder)
	// A field stands where it must, not within another one, and not beside its object.
	wantRefused(t, swapped(t, `"headerId":7,`, `"x":{"headerId":7},`), api.ErrOrder)
	wantRefused(t, swapped(t, `,"released":true}`, `},{"released":true}`), api.ErrOrder)
}

// TestTakeOtherKinds: each field is of its kind.
func TestTakeOtherKinds(t *testing.T) {
	values := []string{"null", "true", "false", "4", `"v1"`, `"4"`, `""`, "[]", "{}", `["v1"]`, "[4]", `{"a":4}`, "4.5", "-4", "0.1", "4e-1", "1e-9", "4.000000001"}
	for _, x := range []struct{ ahead, value, may string }{
		{`"headerId":`, "7", "4"}, {`"serialNumber":`, `"v1"`, `"v1" "4"`}, {`"orderId":`, "3", "4"}, {`"orderUpdateId":`, "1", "4"},
		{`"nodeId":`, "5", "4"}, {`"nodeId":`, "6", "4"}, {`"edgeId":`, "11", "4"},
		{`"sequenceId":`, "4", "4"}, {`"sequenceId":`, "6", ""}, {`"sequenceId":`, "5", ""},
		{`"sequenceId":4,"released":`, "true", "true"}, {`"sequenceId":6,"released":`, "false", "false"}, {`"sequenceId":5,"released":`, "false", "false"},
	} {
		for _, v := range values {
			text := swapped(t, x.ahead+x.value, x.ahead+v)
			if !slices.Contains(strings.Fields(x.may), v) {
				wantRefused(t, text, api.ErrOrder)
			} else if _, e := order.Take(sealed(text)); e != api.OK {
				t.Errorf("Take(%q): %d", text, e)
			}
		}
	}
	for _, v := range []string{"null", "true", "7", `"x"`, "{}", `{"0":{}}`, "[null]", "[7]", `["x"]`, "[[]]", "[{}]", "[[{}]]"} {
		wantRefused(t, strings.Replace(textOf(single()), `"edges":[]`, `"edges":`+v, 1), api.ErrOrder)
		wantRefused(t, `{"headerId":1,"serialNumber":"v1","orderId":2,"orderUpdateId":0,"edges":[],"nodes":`+v+"}", api.ErrOrder)
	}
	for _, item := range []string{"null", "5", `"5"`, "[]", "{}", "true", "[5,4,true]"} {
		wantRefused(t, swapped(t, `{"nodeId":5,"sequenceId":4,"released":true}`, item), api.ErrOrder)
		wantRefused(t, swapped(t, `{"nodeId":6,"sequenceId":6,"released":false}`, item), api.ErrOrder)
		wantRefused(t, swapped(t, `{"edgeId":11,"sequenceId":5,"released":false}`, item), api.ErrOrder)
	}
}

// TestTakeNotRight: what is told in its form may be an order that is not right.
func TestTakeNotRight(t *testing.T) {
	for _, o := range wrongOrders() {
		text := textOf(o)
		if len(text) > 20000 || o.Vehicle != strings.Map(printable, o.Vehicle) || hasHuge(o) {
			continue
		}
		wantRefused(t, text, api.ErrOrder)
	}
	for _, name := range []string{`""`, `"v 1"`, `"v/1"`, `"\u0000"`, `"v1\n"`, `"é"`, `"v1\u0020"`, `"abcdefghijklmnopq"`, `"\""`, `"` + strings.Repeat("v", 10000) + `"`} {
		wantRefused(t, swapped(t, `"v1"`, name), api.ErrOrder)
	}
	for _, n := range []string{"-1", "-4", "1000000001", "1000000002", "-1000000000", "1e5000", "123456789012345e3", "-999999999999999e9", "1.000000001e9"} {
		errno := api.ErrOrder
		if n == "1e5000" {
			errno = api.ErrLex
		}
		for _, name := range []string{"headerId", "orderId", "orderUpdateId", "nodeId", "edgeId", "sequenceId"} {
			for _, value := range []string{"7", "3", "1", "5", "6", "11", "4"} {
				if old := fmt.Sprintf(`"%s":%s`, name, value); strings.Contains(smallText, old+",") {
					wantRefused(t, swapped(t, old+",", fmt.Sprintf(`"%s":%s,`, name, n)), errno)
				}
			}
		}
	}
}

// printable drops what can't stand in a JSON string as it is.
func printable(r rune) rune {
	if r < 32 || r == '"' || r == '\\' || r == '\ufffd' {
		return -1
	}
	return r
}

// hasHuge tells whether a number of o is one that JSON texts can't tell (chapter 1).
func hasHuge(o api.Order) bool {
	nums := []int{o.Header, o.Order, o.Update}
	for _, n := range o.Nodes {
		nums = append(nums, n.Node, n.Seq)
	}
	for _, e := range o.Edges {
		nums = append(nums, e.Edge, e.Seq)
	}
	for _, n := range nums {
		if n > 1e12 || n < -1e12 {
			return true
		}
	}
	return false
}

// wild is a text that tells o, by chance in another way; mostly one thing is wrong about it, and it tells whether that is so.
func wild(chance *rand.Rand, o api.Order) (string, bool) {
	w := wilder{chance: chance, spoil: -1}
	fields := 6 + 3*len(o.Nodes) + 3*len(o.Edges)
	if chance.Intn(4) > 0 {
		w.spoil = chance.Intn(fields)
	}
	var nodes, edges []string
	for _, n := range o.Nodes {
		nodes = append(nodes, w.object(w.num("nodeId", n.Node), w.num("sequenceId", n.Seq), w.flag("released", n.Released)))
	}
	for _, e := range o.Edges {
		edges = append(edges, w.object(w.num("edgeId", e.Edge), w.num("sequenceId", e.Seq), w.flag("released", e.Released)))
	}
	return w.object(
		w.num("headerId", o.Header), w.text("serialNumber", o.Vehicle), w.num("orderId", o.Order), w.num("orderUpdateId", o.Update),
		w.field("nodes", "["+strings.Join(nodes, ",")+"]", "{}", "7", "null", `"[]"`, "[7]", "[[]]"),
		w.field("edges", "["+strings.Join(edges, ",")+"]", "{}", "7", "null", `"[]"`, "[7]", "[[]]"),
	), w.spoil >= 0
}

// wilder writes fields, of which it spoils the one of a number.
type wilder struct {
	chance *rand.Rand
	next   int
	spoil  int
}

// field is a name and a value, or one of those that are wrong, or another name; it may be missing, too.
func (w *wilder) field(name, value string, wrong ...string) string {
	here := w.next == w.spoil
	w.next++
	if here && w.chance.Intn(3) == 0 {
		return `"` + name + `_":` + value
	}
	if here && w.chance.Intn(2) == 0 {
		return ""
	}
	if here {
		value = wrong[w.chance.Intn(len(wrong))]
	}
	return w.blank() + `"` + name + `"` + w.blank() + ":" + w.blank() + value + w.blank()
}

func (w *wilder) num(name string, n int) string {
	form := []string{"%d", "%d.0", "%de0", "%d.00E+0", "%d0e-1"}[w.chance.Intn(5)]
	if n == 0 {
		form = "-%d.0e-3" // 0 has no nought behind it
	}
	return w.field(name, fmt.Sprintf(form, n), "null", `"7"`, "0.5", "-1", "true", "[1]", "1000000001", "{}")
}

func (w *wilder) text(name, s string) string {
	if w.chance.Intn(2) == 0 {
		s = fmt.Sprintf(`\u%04x`, s[0]) + s[1:]
	}
	return w.field(name, `"`+s+`"`, "null", "7", `""`, `"a b"`, `["v"]`, "false", `"01234567890123456"`)
}

func (w *wilder) flag(name string, b bool) string {
	return w.field(name, fmt.Sprint(b), "null", "1", "0", `"true"`, "[]", "{}")
}

// object is these fields in an order by chance, with others among them.
func (w *wilder) object(fields ...string) string {
	var out []string
	for _, f := range fields {
		if f != "" {
			out = append(out, f)
		}
	}
	for i := range w.chance.Intn(3) {
		out = append(out, fmt.Sprintf(`"x%d":%s`, i, []string{"null", "7.5", `{"headerId":[]}`, `"é"`, "[1,[2]]"}[w.chance.Intn(5)]))
	}
	w.chance.Shuffle(len(out), func(i, j int) { out[i], out[j] = out[j], out[i] })
	return w.blank() + "{" + strings.Join(out, ",") + "}" + w.blank()
}

func (w *wilder) blank() string { return []string{"", "", "", " ", "\n", "\t\r"}[w.chance.Intn(6)] }

func TestTakeMany(t *testing.T) {
	chance := rand.New(rand.NewSource(4))
	for range 15000 {
		o := anyOrder(chance)
		text, wrong := wild(chance, o)
		switch {
		case len(text) > 20000:
			wantRefused(t, text, api.ErrLex)
		case wrong:
			wantRefused(t, text, api.ErrOrder)
		default:
			wantTaken(t, text, o)
		}
		if o = bent(chance, o); !isRight(o) {
			wantRefused(t, textOf(o), api.ErrOrder)
		} else {
			wantTaken(t, textOf(o), o)
		}
	}
}
