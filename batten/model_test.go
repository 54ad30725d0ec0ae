package batten_test

import (
	"slices"
	"strings"

	"batten/api"
)

// record: a node of the plain model: a row of a table.
type record struct {
	id, parent int
	node       api.Node
}

// model: a document read off the document's words: one table, in which the
// children of a node stand in their order, though not side by side.
type model struct {
	rows []record
	last int
}

func newModel(l []api.Node) *model {
	m := &model{}
	for i, n := range l {
		n.Attrs = slices.Clone(n.Attrs)
		m.rows = append(m.rows, record{i + 1, parentIn(l, i) + 1, n})
	}
	m.last = len(l)
	return m
}

func (m *model) row(id int) *record {
	for i := range m.rows {
		if m.rows[i].id == id {
			return &m.rows[i]
		}
	}
	return nil
}

// within: whether a node is another one or stands within it.
func (m *model) within(id, other int) bool {
	for id != other {
		r := m.row(id)
		if r == nil {
			return false
		}
		id = r.parent
	}
	return true
}

// seen: the rows of a node and of what is within it, as a tree.
func (m *model) seen(id, depth int) (l []api.Node, ids []int) {
	n := m.row(id).node
	n.Depth = depth
	l, ids = []api.Node{n}, []int{id}
	for _, r := range m.rows {
		if r.parent == id {
			kids, nos := m.seen(r.id, depth+1)
			l, ids = append(l, kids...), append(ids, nos...)
		}
	}
	return l, ids
}

// spare: whether what a patch does not need is 0 or empty.
func spare(p api.Patch) bool {
	needs := map[int]string{api.Create: "Tag Key Text", api.Insert: "Parent Before", api.Set: "Name Text", api.Unset: "Name", api.Write: "Text"}[p.Kind]
	has := func(field string) bool { return strings.Contains(needs, field) }
	return (has("Parent") || p.Parent == 0) && (has("Before") || p.Before == 0) && (has("Key") || p.Key == 0) &&
		(has("Tag") || p.Tag == "") && (has("Name") || p.Name == "") && (has("Text") || p.Text == "")
}

func (m *model) create(p api.Patch) bool {
	element := letters(p.Tag) && p.Key >= 0 && p.Text == ""
	text := p.Tag == "" && p.Key == 0 && len(p.Text) <= 20
	if p.ID != m.last+1 || len(m.rows) >= 800 || !element && !text {
		return false
	}
	m.last++
	m.rows = append(m.rows, record{p.ID, 0, api.Node{Tag: p.Tag, Key: p.Key, Text: p.Text}})
	return true
}

func (m *model) insert(p api.Patch) bool {
	n, to, before := m.row(p.ID), m.row(p.Parent), m.row(p.Before)
	if n == nil || p.ID == 1 || to == nil || to.node.Tag == "" || m.within(p.Parent, p.ID) {
		return false
	}
	if p.Before != 0 && (before == nil || before.parent != p.Parent || p.Before == p.ID) {
		return false
	}
	moved := record{p.ID, p.Parent, n.node}
	m.rows = slices.DeleteFunc(m.rows, func(r record) bool { return r.id == p.ID })
	at := slices.IndexFunc(m.rows, func(r record) bool { return r.id == p.Before })
	if at < 0 {
		at = len(m.rows)
	}
	m.rows = slices.Insert(m.rows, at, moved)
	return true
}

func (m *model) remove(p api.Patch) bool {
	if m.row(p.ID) == nil || p.ID == 1 {
		return false
	}
	var left []record
	for _, r := range m.rows {
		if !m.within(r.id, p.ID) {
			left = append(left, r)
		}
	}
	m.rows = left
	return true
}

func (m *model) set(p api.Patch) bool {
	r := m.row(p.ID)
	if r == nil || r.node.Tag == "" || !letters(p.Name) || len(p.Text) > 20 {
		return false
	}
	l := slices.DeleteFunc(slices.Clone(r.node.Attrs), func(a api.Attr) bool { return a.Name == p.Name })
	if len(l) >= 5 {
		return false
	}
	l = append(l, at(p.Name, p.Text))
	slices.SortFunc(l, func(a, b api.Attr) int { return strings.Compare(a.Name, b.Name) })
	r.node.Attrs = l
	return true
}

func (m *model) unset(p api.Patch) bool {
	r := m.row(p.ID)
	if r == nil {
		return false
	}
	l := slices.DeleteFunc(slices.Clone(r.node.Attrs), func(a api.Attr) bool { return a.Name == p.Name })
	had := len(l) < len(r.node.Attrs)
	r.node.Attrs = l
	return had
}

func (m *model) write(p api.Patch) bool {
	r := m.row(p.ID)
	if r == nil || r.node.Tag != "" || len(p.Text) > 20 {
		return false
	}
	r.node.Text = p.Text
	return true
}

func (m *model) do(p api.Patch) bool {
	kinds := map[int]func(api.Patch) bool{api.Create: m.create, api.Insert: m.insert, api.Remove: m.remove, api.Set: m.set, api.Unset: m.unset, api.Write: m.write}
	does := kinds[p.Kind]
	return does != nil && spare(p) && does(p)
}

func (m *model) apply(l ...api.Patch) (api.Errno, int) {
	for i, p := range l {
		if !m.do(p) {
			return api.ErrPatch, i
		}
	}
	return api.OK, 0
}
