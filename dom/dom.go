// Package dom keeps a document: nodes with numbers, and the patches that change them.
package dom

import (
	"slices"
	"strings"

	"batten/api"
	"batten/tree"
)

// Doc is a document. Its nodes are known by their numbers, whether they are
// attached or loose.
type Doc struct {
	root  *node
	nodes map[int]*node
	last  int
}

type node struct {
	id, key   int
	tag, text string
	attrs     []api.Attr
	parent    *node
	kids      []*node
}

// New makes a document of a tree; it tells as tree.Check why a list is none.
func New(l []api.Node) (*Doc, api.Errno, int) {
	if no, at := tree.Check(l); no != api.OK {
		return nil, no, at
	}
	d := &Doc{nodes: map[int]*node{}}
	var above [api.MaxDeep]*node
	for _, t := range l {
		n := d.add(t)
		above[t.Depth] = n
		if t.Depth == 0 {
			d.root = n
		} else {
			above[t.Depth-1].take(n, nil)
		}
	}
	return d, api.OK, 0
}

// add gives the next number to a node that is loose as yet.
func (d *Doc) add(t api.Node) *node {
	d.last++
	n := &node{id: d.last, key: t.Key, tag: own(t.Tag), text: own(t.Text)}
	for _, a := range t.Attrs {
		n.attrs = append(n.attrs, api.Attr{Name: own(a.Name), Value: own(a.Value)})
	}
	d.nodes[n.id] = n
	return n
}

// own copies a text: it may be a piece of a long one, which would be kept with it.
func own(s string) string { return strings.Clone(s) }

// Tree tells the attached nodes as a tree.
func (d *Doc) Tree() []api.Node { return d.root.part(0) }

// part is a node at a depth, and all within it.
func (n *node) part(depth int) []api.Node {
	var parts [][]api.Node
	for _, k := range n.kids {
		parts = append(parts, k.part(depth+1))
	}
	attrs := append([]api.Attr(nil), n.attrs...)
	return tree.Join(api.Node{Depth: depth, Tag: n.tag, Key: n.key, Attrs: attrs, Text: n.text}, parts...)
}

// IDs tells the numbers of the attached nodes, in the order of Tree.
func (d *Doc) IDs() []int {
	var l []int
	d.root.each(func(n *node) { l = append(l, n.id) })
	return l
}

// Loose tells how many nodes are not attached.
func (d *Doc) Loose() int { return len(d.nodes) - len(d.IDs()) }

// each goes through a node and all within it, each ahead of what is within it.
func (n *node) each(see func(n *node)) {
	see(n)
	for _, k := range n.kids {
		k.each(see)
	}
}

func (n *node) isElement() bool { return n.tag != "" }

// isIn tells whether a node is another one or within it.
func (n *node) isIn(other *node) bool {
	for ; n != nil; n = n.parent {
		if n == other {
			return true
		}
	}
	return false
}

// take makes a loose node a child: right ahead of before, or the last one, if
// that is nil.
func (n *node) take(kid, before *node) {
	at := len(n.kids)
	if before != nil {
		at = slices.Index(n.kids, before)
	}
	n.kids = slices.Insert(n.kids, at, kid)
	kid.parent = n
}

func (n *node) leave() {
	p := n.parent
	if p == nil {
		return
	}
	at := slices.Index(p.kids, n)
	p.kids = slices.Delete(p.kids, at, at+1)
	n.parent = nil
}

// find tells where an attribute stands, or where it would.
func (n *node) find(name string) (int, bool) {
	return slices.BinarySearchFunc(n.attrs, name, func(a api.Attr, name string) int {
		return strings.Compare(a.Name, name)
	})
}
