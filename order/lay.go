package order

import (
	"humpyard/api"
	"humpyard/field"
	"humpyard/json"
	"humpyard/seal"
)

// The names of an order's fields, and of those of its stops and ways.
const (
	nameHeader   = "headerId"
	nameVehicle  = "serialNumber"
	nameOrder    = "orderId"
	nameUpdate   = "orderUpdateId"
	nameNodes    = "nodes"
	nameEdges    = "edges"
	nameNode     = "nodeId"
	nameEdge     = "edgeId"
	nameSeq      = "sequenceId"
	nameReleased = "released"
)

// Lay is the sealed text of an order that is right.
func Lay(o api.Order) (string, api.Errno) {
	if !Right(o) {
		return "", api.ErrArg
	}
	return seal.Seal(json.Print(layOrder(o))), api.OK
}

// layOrder is the object that tells an order.
func layOrder(o api.Order) api.Json {
	return field.Make(
		[]string{nameHeader, nameVehicle, nameOrder, nameUpdate, nameNodes, nameEdges},
		[]api.Json{field.Int(o.Header), field.Str(o.Vehicle), field.Int(o.Order), field.Int(o.Update), layAll(o.Nodes, layStop), layAll(o.Edges, layWay)},
	)
}

// layAll is the array of what lay makes of each of a list.
func layAll[T any](list []T, lay func(one T) api.Json) api.Json {
	items := make([]api.Json, len(list))
	for i, one := range list {
		items[i] = lay(one)
	}
	return field.Arr(items)
}

func layStop(s api.Stop) api.Json { return layPart(nameNode, s.Node, s.Seq, s.Released) }

func layWay(w api.Way) api.Json { return layPart(nameEdge, w.Edge, w.Seq, w.Released) }

// layPart is the object that tells a stop, or a way, whose own number has a name of its own.
func layPart(name string, number, seq int, released bool) api.Json {
	return field.Make(
		[]string{name, nameSeq, nameReleased},
		[]api.Json{field.Int(number), field.Int(seq), field.Yes(released)},
	)
}
