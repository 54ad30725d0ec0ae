package tree

import "batten/api"

// Parts tells what stands right within the first node of a tree or of a part of
// one: each child, with all that is within it. The parts are pieces of the list.
func Parts(l []api.Node) [][]api.Node {
	var parts [][]api.Node
	start := 1
	for i := 2; i <= len(l); i++ {
		if i == len(l) || l[i].Depth == l[0].Depth+1 {
			parts = append(parts, l[start:i])
			start = i
		}
	}
	return parts
}

// Join is the way back from Parts: a node, and behind it what is within it, in
// new memory.
func Join(first api.Node, parts ...[]api.Node) []api.Node {
	l := []api.Node{first}
	for _, part := range parts {
		l = append(l, part...)
	}
	return l
}
