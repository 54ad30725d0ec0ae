package dom

import "batten/api"

// none is the place of a child that there is not.
const none = -1

func isNone(place int) bool { return place == none }

// like is what the two children of a pair have in common: the tag, the key, and
// how many with both stand ahead. (In a tree, none stands ahead of a child with
// a key; so the first one in the document counts.)
type like struct {
	tag        string
	key, ahead int
}

// pairs tells for each part which child is a pair with its first node: its place
// among the children, or none.
func (n *node) pairs(parts [][]api.Node) []int {
	places, seen := map[like]int{}, map[like]int{}
	for i, k := range n.kids {
		places[count(seen, k.tag, k.key)] = i
	}
	clear(seen)
	var l []int
	for _, part := range parts {
		place, has := places[count(seen, part[0].Tag, part[0].Key)]
		if !has {
			place = none
		}
		l = append(l, place)
	}
	return l
}

// count adds a child to those with its tag and key.
func count(seen map[like]int, tag string, key int) like {
	l := like{tag: tag, key: key}
	seen[l]++
	return like{tag, key, seen[l] - 1}
}
