package batten_test

import (
	"fmt"
	"slices"
	"testing"

	"batten/api"
	"batten/batten"
)

// sent: an update that has its ticket: that is where it stands in the row of all, from 1 on.
type sent struct {
	act              api.Op
	task, generation int
	linked           bool
}

// mounted: a component while it is mounted.
type mounted struct {
	name, parent, generation int
	fields                   [4]int
	numbers                  []int
}

// plainUI: a UI read off the document's words.
type plainUI struct {
	tasks       [][]api.Op
	done        []int
	half        []int // the ticket of the update that is not linked yet
	sent        []sent
	taken, upto int
	now         []*mounted
	times       map[int]int
	events      []api.Event
	commits     []api.Commit
	tree        []api.Node
	does, drops [10]int // by kinds: how many updates were folded, how many dropped
}

func newPlainUI(tasks [][]api.Op) *plainUI {
	m := &plainUI{done: make([]int, len(tasks)), half: make([]int, len(tasks)), times: map[int]int{}}
	for _, acts := range tasks {
		m.tasks = append(m.tasks, slices.Clone(acts))
	}
	m.tree = m.toSee()
	return m
}

func (m *plainUI) find(name int) *mounted {
	for _, c := range m.now {
		if c.name == name {
			return c
		}
	}
	return nil
}

func (m *plainUI) step(k int) api.Errno {
	switch {
	case k < 0 || k > len(m.tasks):
		return api.ErrTask
	case k == 0:
		return m.render()
	case m.done[k-1] == len(m.tasks[k-1]):
		return api.ErrDone
	}
	act := m.tasks[k-1][m.done[k-1]]
	if act.Kind != api.Flush && act.Kind != api.Read {
		m.send(k, act)
		return api.OK
	}
	for i, s := range m.sent {
		if act.Kind == api.Flush && s.task == k && i+1 > m.upto {
			return api.ErrWait
		}
	}
	m.events = append(m.events, api.Event{Task: k, Kind: act.Kind, Version: len(m.commits), Upto: m.upto})
	m.done[k-1]++
	return api.OK
}

func (m *plainUI) send(k int, act api.Op) {
	if ticket := m.half[k-1]; ticket > 0 {
		m.sent[ticket-1].linked = true
		m.half[k-1] = 0
		m.done[k-1]++
		return
	}
	s := sent{act: act, task: k}
	if c := m.find(act.Name); c != nil {
		s.generation = c.generation
	}
	m.sent = append(m.sent, s)
	m.half[k-1] = len(m.sent)
}

func (m *plainUI) render() api.Errno {
	if m.taken < len(m.sent) && m.sent[m.taken].linked {
		m.taken++
		return api.OK
	}
	if m.taken == m.upto {
		return api.ErrWait
	}
	for _, s := range m.sent[m.upto:m.taken] {
		if m.fold(s) {
			m.does[s.act.Kind]++
		} else {
			m.drops[s.act.Kind]++
		}
	}
	was := m.tree
	m.upto = m.taken
	m.commits = append(m.commits, api.Commit{Upto: m.upto})
	m.tree = m.toSee()
	m.commits[len(m.commits)-1].Patches = plainCount(was, m.tree)
	return api.OK
}

// plainCount: how many patches P6 counts from one tree to another.
func plainCount(l, want []api.Node) int {
	others, moves := plainWay(l, want, upTo(len(l)), make([]int, len(want)))
	n := len(others)
	for _, k := range moves {
		n += k
	}
	for _, i := range plainPairs(l, want) {
		if i < 0 {
			n += 2
		}
	}
	return n
}

// isIn: whether a component is another one or stands within it.
func (m *plainUI) isIn(c *mounted, name int) bool {
	return c != nil && (c.name == name || m.isIn(m.find(c.parent), name))
}

func (m *plainUI) mount(name, parent int) bool {
	above := 0
	for p := parent; p != 0; p = m.find(p).parent {
		if m.find(p) == nil {
			return false
		}
		above++
	}
	if m.find(name) != nil || above > 4 {
		return false
	}
	m.times[name]++
	m.now = append(m.now, &mounted{name: name, parent: parent, generation: m.times[name]})
	return true
}

// fold: whether the update was folded; it was dropped otherwise.
func (m *plainUI) fold(s sent) bool {
	act, c := s.act, m.find(s.act.Name)
	if act.Kind == api.Mount {
		return m.mount(act.Name, act.Parent)
	}
	if c == nil || c.generation != s.generation {
		return false
	}
	at := slices.Index(c.numbers, act.N)
	switch l := len(c.numbers); {
	case act.Kind == api.Unmount:
		var left []*mounted
		for _, other := range m.now {
			if !m.isIn(other, act.Name) {
				left = append(left, other)
			}
		}
		m.now = left
	case act.Kind == api.Put:
		c.fields[act.Field] = act.N
	case act.Kind == api.Add:
		c.fields[act.Field] = int(uint(c.fields[act.Field]) + uint(act.N))
	case act.Kind == api.Push && at < 0 && l < 8:
		c.numbers = append(slices.Clone(c.numbers), act.N)
	case act.Kind == api.Pull && at >= 0:
		c.numbers = append(slices.Clone(c.numbers[:at]), c.numbers[at+1:]...)
	case act.Kind == api.Swap && l > 0:
		changed := slices.Clone(c.numbers)
		changed[act.N%l], changed[act.M%l] = c.numbers[act.M%l], c.numbers[act.N%l]
		c.numbers = changed
	default:
		return false
	}
	return true
}

// toSee: what is to be seen.
func (m *plainUI) toSee() []api.Node {
	l := list(el(0, "ui", 0, at("v", fmt.Sprint(len(m.commits)))))
	var below func(parent, depth int)
	below = func(parent, depth int) {
		for name := 1; name <= 20; name++ {
			c := m.find(name)
			if c == nil || c.parent != parent {
				continue
			}
			n := el(depth, "c", name)
			for i, f := range []string{"", "a", "b", "c"} {
				if c.fields[i] != 0 {
					n.Attrs = append(n.Attrs, at(f, fmt.Sprint(c.fields[i])))
				}
			}
			l = append(l, n)
			for _, k := range c.numbers {
				l = append(l, el(depth+1, "i", 100+k), tx(depth+2, fmt.Sprint(k)))
			}
			below(name, depth+1)
		}
	}
	below(0, 1)
	return l
}

// generations: of all that are mounted.
func (m *plainUI) generations() map[int]int {
	l := map[int]int{}
	for _, c := range m.now {
		l[c.name] = c.generation
	}
	return l
}

// bothUI: a UI, and the plain model of it; the greatest number of a node as yet.
type bothUI struct {
	u    *batten.UI
	m    *plainUI
	last int
}

func newBothUI(t *testing.T, tasks ...[]api.Op) *bothUI {
	t.Helper()
	b := &bothUI{newUI(t, tasks...), newPlainUI(tasks), 1}
	b.same(t, list(el(0, "ui", 0, at("v", "0"))), []int{1})
	return b
}

// steps: those that can be done and those that can not, as the plain model has them.
func (b *bothUI) steps(t *testing.T, tasks ...int) {
	t.Helper()
	for _, k := range tasks {
		b.step(t, k)
	}
}

func (b *bothUI) step(t *testing.T, k int) api.Errno {
	t.Helper()
	was, ids, generations, events := b.m.tree, b.u.IDs(), b.m.generations(), len(b.m.events)
	no := b.m.step(k)
	if got := b.u.Step(k); got != no {
		t.Fatalf("P8: %v: Step(%d) = %d, want %d", b.m.tasks, k, got, no)
	}
	b.same(t, was, ids)
	b.stay(t, was, ids, generations)
	b.flushed(t, events)
	return no
}

// same: what the calls of P9 tell, and the numbers of nodes, as P6 has them.
func (b *bothUI) same(t *testing.T, was []api.Node, ids []int) {
	t.Helper()
	if got := b.u.Tree(); !alike(got, b.m.tree) {
		t.Fatalf("P9: %v: Tree() = %v, want %v", b.m.tasks, got, b.m.tree)
	}
	if !slices.Equal(b.u.Events(), b.m.events) || !slices.Equal(b.u.Commits(), b.m.commits) {
		t.Fatalf("P9: %v: %v, %v, want %v, %v", b.m.tasks, b.u.Events(), b.u.Commits(), b.m.events, b.m.commits)
	}
	now := b.u.IDs()
	var made []int
	for j, i := range plainPairs(was, b.m.tree) {
		if i < 0 {
			made = append(made, now[j])
		} else if now[j] != ids[i] {
			t.Fatalf("P6: from %v to %v: IDs() = %v, were %v", was, b.m.tree, now, ids)
		}
	}
	slices.Sort(made)
	for _, id := range made {
		if b.last++; id != b.last {
			t.Fatalf("P6: from %v to %v: IDs() = %v, were %v", was, b.m.tree, now, ids)
		}
	}
}

// numbersOf: those of a component's element, and of the elements of its numbers by their keys.
func numbersOf(l []api.Node, ids []int, name int) map[int]int {
	m := map[int]int{}
	for i, n := range l {
		if n.Tag == "c" && n.Key == name || n.Tag == "i" && l[parentIn(l, i)].Key == name {
			m[n.Key] = ids[i]
		}
	}
	return m
}

// stay: that what stays mounted has kept its numbers (P10).
func (b *bothUI) stay(t *testing.T, was []api.Node, ids []int, generations map[int]int) {
	t.Helper()
	l, now := b.u.Tree(), b.u.IDs()
	for name, g := range b.m.generations() {
		if generations[name] != g {
			continue
		}
		old := numbersOf(was, ids, name)
		for key, id := range numbersOf(l, now, name) {
			if old[key] != 0 && old[key] != id {
				t.Fatalf("P10: %v: %d of component %d has the ID %d, had %d", b.m.tasks, key, name, id, old[key])
			}
		}
	}
}
