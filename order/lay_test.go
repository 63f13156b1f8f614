package order_test

import (
	"fmt"
	"hash/fnv"
	"math/rand"
	"strings"
	"testing"

	"humpyard/api"
	"humpyard/order"
)

// sealed is a text with its sum behind, said anew.
func sealed(text string) string {
	sum := fnv.New32a()
	sum.Write([]byte(text))
	return fmt.Sprintf("%s#%08x", text, sum.Sum32())
}

// textOf is the text of an order that is right, not sealed, said anew.
func textOf(o api.Order) string {
	var nodes, edges []string
	for _, n := range o.Nodes {
		nodes = append(nodes, fmt.Sprintf(`{"nodeId":%d,"sequenceId":%d,"released":%t}`, n.Node, n.Seq, n.Released))
	}
	for _, e := range o.Edges {
		edges = append(edges, fmt.Sprintf(`{"edgeId":%d,"sequenceId":%d,"released":%t}`, e.Edge, e.Seq, e.Released))
	}
	return fmt.Sprintf(`{"headerId":%d,"serialNumber":"%s","orderId":%d,"orderUpdateId":%d,"nodes":[%s],"edges":[%s]}`,
		o.Header, o.Vehicle, o.Order, o.Update, strings.Join(nodes, ","), strings.Join(edges, ","))
}

// O2

func wantLay(t *testing.T, o api.Order, want string, errno api.Errno) {
	t.Helper()
	if got, e := order.Lay(o); got != want || e != errno {
		t.Errorf("Lay(%s): %q, %d; want %q, %d", told(o), got, e, want, errno)
	}
}

func TestLayExample(t *testing.T) {
	wantLay(t, single(), `{"headerId":1,"serialNumber":"v1","orderId":2,"orderUpdateId":0,"nodes":[{"nodeId":3,"sequenceId":0,"released":true}],"edges":[]}#`+exampleSum, api.OK)
}

// exampleSum is the sum of the text of the chapter's example.
const exampleSum = "3c935503"

func TestLayTexts(t *testing.T) {
	wantLay(t, line(3, 2, 4), sealed(`{"headerId":7,"serialNumber":"v1","orderId":3,"orderUpdateId":1,"nodes":[{"nodeId":5,"sequenceId":4,"released":true},{"nodeId":6,"sequenceId":6,"released":true},{"nodeId":7,"sequenceId":8,"released":false}],"edges":[{"edgeId":11,"sequenceId":5,"released":true},{"edgeId":12,"sequenceId":7,"released":false}]}`), api.OK)
	high := with(line(2, 1, 999_999_998), func(o *api.Order) {
		o.Header, o.Order, o.Update, o.Nodes[0].Node, o.Nodes[1].Node, o.Edges[0].Edge = 1_000_000_000, 999_999_999, 999_999_990, 1_000_000_000, 10, 100_000_000
	})
	wantLay(t, high, sealed(`{"headerId":1000000000,"serialNumber":"v1","orderId":999999999,"orderUpdateId":999999990,"nodes":[{"nodeId":1000000000,"sequenceId":999999998,"released":true},{"nodeId":10,"sequenceId":1000000000,"released":false}],"edges":[{"edgeId":100000000,"sequenceId":999999999,"released":false}]}`), api.OK)
	low := api.Order{Vehicle: "a.B:9-_", Nodes: []api.Stop{stop(0, 0, true), stop(0, 2, true)}, Edges: []api.Way{way(0, 1, true)}}
	wantLay(t, low, sealed(`{"headerId":0,"serialNumber":"a.B:9-_","orderId":0,"orderUpdateId":0,"nodes":[{"nodeId":0,"sequenceId":0,"released":true},{"nodeId":0,"sequenceId":2,"released":true}],"edges":[{"edgeId":0,"sequenceId":1,"released":true}]}`), api.OK)
}

func TestLayTable(t *testing.T) {
	for _, o := range rightOrders() {
		wantLay(t, o, sealed(textOf(o)), api.OK)
	}
	for _, o := range wrongOrders() {
		wantLay(t, o, "", api.ErrArg)
	}
}

func TestLayCounts(t *testing.T) {
	for count := 1; count <= 66; count++ {
		for released := 1; released <= count; released++ {
			o := line(count, released, 2*count)
			if count <= 64 {
				wantLay(t, o, sealed(textOf(o)), api.OK)
			} else {
				wantLay(t, o, "", api.ErrArg)
			}
		}
	}
}

func TestLayMany(t *testing.T) {
	chance := rand.New(rand.NewSource(3))
	for range 6000 {
		o := anyOrder(chance)
		wantLay(t, o, sealed(textOf(o)), api.OK)
		if o = bent(chance, o); isRight(o) {
			wantLay(t, o, sealed(textOf(o)), api.OK)
		} else {
			wantLay(t, o, "", api.ErrArg)
		}
	}
}
