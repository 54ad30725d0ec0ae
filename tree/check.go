// Package tree says which lists of nodes are trees.
package tree

import "batten/api"

// Check tells the first node that may not be at its place.
func Check(l []api.Node) (api.Errno, int) {
	if len(l) < 1 || len(l) > api.MaxNodes {
		return api.ErrMany, 0
	}
	for i := range l {
		if !mayBe(l, i) {
			return api.ErrTree, i
		}
	}
	return api.OK, 0
}

// mayBe leans on every node ahead of node i having been found good: only then
// do the depths ahead lead back to a parent.
func mayBe(l []api.Node, i int) bool {
	if i == 0 {
		return l[0].Depth == 0 && IsElement(l[0])
	}
	return depthFits(l[i-1].Depth, l[i].Depth) && (IsElement(l[i]) || IsTextNode(l[i])) && placeFits(l, i)
}

func depthFits(ahead, depth int) bool {
	return depth >= 1 && depth <= ahead+1 && depth < api.MaxDeep
}

// placeFits goes back to the parent. No node on the way is less deep than
// node i, so one that is as deep has the same parent.
func placeFits(l []api.Node, i int) bool {
	n := l[i]
	for j := i - 1; j >= 0; j-- {
		if l[j].Depth < n.Depth {
			return l[j].Tag != ""
		}
		if n.Key != 0 && l[j].Depth == n.Depth && l[j].Key == n.Key {
			return false
		}
	}
	return false
}

// IsElement looks at the node alone, not at its place.
func IsElement(n api.Node) bool {
	return IsName(n.Tag) && n.Text == "" && n.Key >= 0 && areAttrs(n.Attrs)
}

// IsTextNode looks at the node alone, not at its place.
func IsTextNode(n api.Node) bool {
	return n.Tag == "" && n.Key == 0 && len(n.Attrs) == 0 && IsText(n.Text)
}

// areAttrs asks for names that rise, so that none comes twice and an element
// has one form only.
func areAttrs(l []api.Attr) bool {
	if len(l) > api.MaxAttrs {
		return false
	}
	for i, a := range l {
		if !IsName(a.Name) || !IsText(a.Value) || i > 0 && l[i-1].Name >= a.Name {
			return false
		}
	}
	return true
}

// IsName tells whether a tag, or an attribute's name, is one.
func IsName(s string) bool {
	if len(s) < 1 || len(s) > api.MaxName {
		return false
	}
	for i := range len(s) {
		if s[i] < 'a' || s[i] > 'z' {
			return false
		}
	}
	return true
}

// IsText counts bytes: a text need not be UTF-8.
func IsText(s string) bool { return len(s) <= api.MaxText }
