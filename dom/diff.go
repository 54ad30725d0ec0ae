package dom

import (
	"slices"

	"batten/api"
	"batten/tree"
)

// Diff tells the patches that bring the document to a tree; none is done.
func (d *Doc) Diff(l []api.Node) ([]api.Patch, api.Errno, int) {
	if no, at := tree.Check(l); no != api.OK {
		return nil, no, at
	}
	if l[0].Tag != d.root.tag || l[0].Key != d.root.key {
		return nil, api.ErrRoot, 0
	}
	if len(d.nodes) > api.MaxLive-len(l) {
		return nil, api.ErrMany, 0
	}
	w := &way{last: d.last}
	w.bring(d.root, l)
	return w.patches, api.OK, 0
}

// way is the patches from a document to a tree, and the greatest number that a
// node has once they are done.
type way struct {
	patches []api.Patch
	last    int
}

// tell copies the texts: an answer shares no memory with the tree that was handed in.
func (w *way) tell(l ...api.Patch) {
	for _, p := range l {
		p.Tag, p.Name, p.Text = own(p.Tag), own(p.Name), own(p.Text)
		w.patches = append(w.patches, p)
	}
}

// bring makes a node what a part of the tree says: the node and the first one
// of the part are a pair.
func (w *way) bring(n *node, part []api.Node) {
	if n.text != part[0].Text {
		w.tell(api.Patch{Kind: api.Write, ID: n.id, Text: part[0].Text})
	}
	w.bringAttrs(n, part[0].Attrs)
	w.bringKids(n, tree.Parts(part))
}

// bringAttrs takes away first: an element that has all that it may have must
// lose one before it gets another.
func (w *way) bringAttrs(n *node, attrs []api.Attr) {
	for _, a := range n.attrs {
		if !slices.ContainsFunc(attrs, func(b api.Attr) bool { return b.Name == a.Name }) {
			w.tell(api.Patch{Kind: api.Unset, ID: n.id, Name: a.Name})
		}
	}
	for _, a := range attrs {
		if !slices.Contains(n.attrs, a) {
			w.tell(api.Patch{Kind: api.Set, ID: n.id, Name: a.Name, Text: a.Value})
		}
	}
}

// bringKids puts each child that does not stay right ahead of the next one that
// does: behind those that were put there earlier, so that they keep their order.
func (w *way) bringKids(n *node, parts [][]api.Node) {
	pairs := n.pairs(parts)
	w.removeOthers(n, pairs)
	stay := longestRow(slices.DeleteFunc(slices.Clone(pairs), isNone))
	for i, part := range parts {
		if len(stay) > 0 && pairs[i] == stay[0] {
			stay = stay[1:]
			w.bring(n.kids[pairs[i]], part)
			continue
		}
		before := 0
		if len(stay) > 0 {
			before = n.kids[stay[0]].id
		}
		kid := w.kid(n, pairs[i], part[0])
		w.tell(api.Patch{Kind: api.Insert, ID: kid.id, Parent: n.id, Before: before})
		w.bring(kid, part)
	}
}

func (w *way) removeOthers(n *node, pairs []int) {
	for i, k := range n.kids {
		if !slices.Contains(pairs, i) {
			w.tell(api.Patch{Kind: api.Remove, ID: k.id})
		}
	}
}

// kid is the child of a pair, or a new one as it is once it is created: what
// that lacks is brought to it as to any other.
func (w *way) kid(n *node, pair int, t api.Node) *node {
	if !isNone(pair) {
		return n.kids[pair]
	}
	w.last++
	w.tell(api.Patch{Kind: api.Create, ID: w.last, Tag: t.Tag, Key: t.Key, Text: t.Text})
	return &node{id: w.last, tag: t.Tag, key: t.Key, text: t.Text}
}
