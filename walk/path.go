package walk

import (
	"iter"

	"humpyard/api"
	"humpyard/order"
)

// mostElements are those of a path over as many nodes as an order may have.
const mostElements = 2*api.MaxStops - 1

// Stops are the nodes of elements.
func Stops(path []int) []int {
	var stops []int
	for element, isEdge := range byTurns(path) {
		if !isEdge {
			stops = append(stops, element)
		}
	}
	return stops
}

// Order is an order over elements, of which so many nodes are released.
func Order(head api.Order, path []int, seq, released int) (api.Order, bool) {
	if !isPath(path) {
		return api.Order{}, false
	}
	o := api.Order{Header: head.Header, Vehicle: head.Vehicle, Order: head.Order, Update: head.Update}
	for element, isEdge := range byTurns(path[:min(len(path), mostElements)]) {
		// An edge and the node behind it have as many nodes ahead of them: both are released, or none is.
		is := len(o.Nodes) < released
		if isEdge {
			o.Edges = append(o.Edges, api.Way{Edge: element - api.EdgeBase, Seq: seq, Released: is})
		} else {
			o.Nodes = append(o.Nodes, api.Stop{Node: element, Seq: seq, Released: is})
		}
		seq++
	}
	if !order.Right(o) {
		return api.Order{}, false
	}
	return o, true
}

// isPath tells whether elements go from a node to a node.
func isPath(path []int) bool {
	for element, isEdge := range byTurns(path) {
		if element < 0 || isEdge != (element >= api.EdgeBase) {
			return false
		}
	}
	return len(path)%2 == 1
}

// byTurns are a path's elements, each with whether it stands at an edge's place.
func byTurns(path []int) iter.Seq2[int, bool] {
	return func(yield func(element int, isEdge bool) bool) {
		isEdge := false
		for _, element := range path {
			if !yield(element, isEdge) {
				return
			}
			isEdge = !isEdge
		}
	}
}

// elements are those of a right order, each with whether it is released.
func elements(o api.Order) iter.Seq2[int, bool] {
	return func(yield func(element int, released bool) bool) {
		for i, stop := range o.Nodes {
			if !yield(stop.Node, stop.Released) {
				return
			}
			if i < len(o.Edges) && !yield(o.Edges[i].Edge+api.EdgeBase, o.Edges[i].Released) {
				return
			}
		}
	}
}
