package layout

import "humpyard/api"

// Reach are the nodes to which one comes from a node, past none that is blocked.
func Reach(l api.Layout, blocked []int, from int) []int {
	if !Right(l) || !isNode(l, from) {
		return nil
	}
	come := comeTo(l, marked(l, blocked), from)
	var reach []int
	for node := range l.Nodes {
		if come[node] {
			reach = append(reach, node)
		}
	}
	return reach
}

// Strong tells whether one comes from each node of a right layout to each.
func Strong(l api.Layout) bool {
	if !Right(l) {
		return false
	}
	all := nodes{}
	for node := range l.Nodes {
		all[node] = true
	}
	for from := range l.Nodes {
		if comeTo(l, nodes{}, from) != all {
			return false
		}
	}
	return true
}

// marked tells of each node whether it is among numbers, of which some may be no nodes.
func marked(l api.Layout, numbers []int) nodes {
	var among nodes
	for _, n := range numbers {
		if isNode(l, n) {
			among[n] = true
		}
	}
	return among
}

// comeTo tells of each node of a right layout whether one comes to it from a node of it, past none that is shut. Each time through the edges comes to one more, or is the last: there are at most as many as nodes.
func comeTo(l api.Layout, shut nodes, from int) nodes {
	var come nodes
	come[from] = true
	for more := true; more; {
		more = false
		for _, e := range l.Edges {
			if come[e.From] && !come[e.To] && !shut[e.To] {
				come[e.To], more = true, true
			}
		}
	}
	return come
}
