package dom

import (
	"slices"

	"batten/api"
	"batten/tree"
)

// Apply does patches up to the first one that can not be done, and tells that.
func (d *Doc) Apply(l ...api.Patch) (api.Errno, int) {
	for i, p := range l {
		if !d.do(p) {
			return api.ErrPatch, i
		}
	}
	return api.OK, 0
}

// do tells whether a patch can be done; where it can not, nothing is changed.
func (d *Doc) do(p api.Patch) bool {
	if p != needed(p) {
		return false
	}
	switch p.Kind {
	case api.Create:
		return d.create(p)
	case api.Insert:
		return d.insert(p)
	case api.Remove:
		return d.remove(p)
	case api.Set:
		return d.set(p)
	case api.Unset:
		return d.unset(p)
	case api.Write:
		return d.write(p)
	}
	return false
}

// needed is the patch with only what its kind needs.
func needed(p api.Patch) api.Patch {
	q := api.Patch{Kind: p.Kind, ID: p.ID}
	switch p.Kind {
	case api.Create:
		q.Tag, q.Key, q.Text = p.Tag, p.Key, p.Text
	case api.Insert:
		q.Parent, q.Before = p.Parent, p.Before
	case api.Set:
		q.Name, q.Text = p.Name, p.Text
	case api.Unset:
		q.Name = p.Name
	case api.Write:
		q.Text = p.Text
	}
	return q
}

func (d *Doc) create(p api.Patch) bool {
	t := api.Node{Tag: p.Tag, Key: p.Key, Text: p.Text}
	if p.ID != d.last+1 || len(d.nodes) >= api.MaxLive || !tree.IsElement(t) && !tree.IsTextNode(t) {
		return false
	}
	d.add(t)
	return true
}

func (d *Doc) insert(p api.Patch) bool {
	n, to := d.nodes[p.ID], d.nodes[p.Parent]
	if n == nil || n == d.root || to == nil || !to.isElement() || to.isIn(n) {
		return false
	}
	before := d.nodes[p.Before]
	if p.Before != 0 && (before == nil || before == n || before.parent != to) {
		return false
	}
	n.leave()
	to.take(n, before)
	return true
}

func (d *Doc) remove(p api.Patch) bool {
	n := d.nodes[p.ID]
	if n == nil || n == d.root {
		return false
	}
	n.leave()
	n.each(func(m *node) { delete(d.nodes, m.id) })
	return true
}

func (d *Doc) set(p api.Patch) bool {
	n := d.nodes[p.ID]
	if n == nil || !n.isElement() || !tree.IsName(p.Name) || !tree.IsText(p.Text) {
		return false
	}
	at, has := n.find(p.Name)
	if !has {
		if len(n.attrs) >= api.MaxAttrs {
			return false
		}
		n.attrs = slices.Insert(n.attrs, at, api.Attr{Name: own(p.Name)})
	}
	n.attrs[at].Value = own(p.Text)
	return true
}

// unset need not ask for an element: a text node has no attributes.
func (d *Doc) unset(p api.Patch) bool {
	n := d.nodes[p.ID]
	if n == nil {
		return false
	}
	at, has := n.find(p.Name)
	if has {
		n.attrs = slices.Delete(n.attrs, at, at+1)
	}
	return has
}

func (d *Doc) write(p api.Patch) bool {
	n := d.nodes[p.ID]
	if n == nil || n.isElement() || !tree.IsText(p.Text) {
		return false
	}
	n.text = own(p.Text)
	return true
}
