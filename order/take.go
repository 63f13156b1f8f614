package order

import (
	"humpyard/api"
	"humpyard/field"
	"humpyard/json"
	"humpyard/seal"
)

// Take is the order that a sealed text tells.
func Take(s string) (api.Order, api.Errno) {
	text, errno := seal.Open(s)
	if errno != api.OK {
		return api.Order{}, errno
	}
	v, errno, _ := json.Parse(text)
	if errno != api.OK {
		return api.Order{}, errno
	}
	t := taker{from: v}
	o := takeOrder(&t)
	if t.failed || !Right(o) {
		return api.Order{}, api.ErrOrder
	}
	return o, api.OK
}

// taker takes fields from a value; it has failed, if one of them was not there, or not of its kind.
type taker struct {
	from   api.Json
	failed bool
}

// need is the field of a name, as ask tells it.
func need[T any](t *taker, name string, ask func(v api.Json, name string) (T, bool)) T {
	told, ok := ask(t.from, name)
	if !ok {
		t.failed = true
	}
	return told
}

// takeOrder is the order that a value tells; it counts for nothing, if t has failed.
func takeOrder(t *taker) api.Order {
	return api.Order{
		Header:  need(t, nameHeader, field.Num),
		Vehicle: need(t, nameVehicle, field.Text),
		Order:   need(t, nameOrder, field.Num),
		Update:  need(t, nameUpdate, field.Num),
		Nodes:   takeAll(t, nameNodes, takeStop),
		Edges:   takeAll(t, nameEdges, takeWay),
	}
}

// takeAll is what take makes of each item of the list of a name.
func takeAll[T any](t *taker, name string, take func(part *taker) T) []T {
	var all []T
	for _, item := range need(t, name, field.List) {
		part := taker{from: item}
		all = append(all, take(&part))
		t.failed = t.failed || part.failed
	}
	return all
}

func takeStop(t *taker) api.Stop {
	return api.Stop{Node: need(t, nameNode, field.Num), Seq: need(t, nameSeq, field.Num), Released: need(t, nameReleased, field.Flag)}
}

func takeWay(t *taker) api.Way {
	return api.Way{Edge: need(t, nameEdge, field.Num), Seq: need(t, nameSeq, field.Num), Released: need(t, nameReleased, field.Flag)}
}
