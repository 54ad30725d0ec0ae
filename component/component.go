// Package component keeps the components of a UI: what updates do to them, and
// what is to be seen of them.
package component

import (
	"slices"

	"batten/api"
)

// What an update may name, beside the bounds in api.
const (
	Fields   = 3  // of a component, from 1 on
	Greatest = 30 // of the numbers in its list, from 0 on
)

// Set is all components, by their names. None is named 0: as a parent, that
// says that there is none.
type Set struct {
	all [api.MaxNames + 1]component
}

// component keeps its generation while it is not mounted, and nothing else.
type component struct {
	mounted    bool
	generation int
	parent     int
	fields     [Fields]int
	numbers    []int
}

// Generation tells that of a component, or 0, if it is not mounted.
func (s *Set) Generation(name int) int {
	if c := s.all[name]; c.mounted {
		return c.generation
	}
	return 0
}

// Fold does what an update does, with the generation that it took with it.
func (s *Set) Fold(update api.Op, generation int) {
	if update.Kind == api.Mount {
		s.mount(update.Name, update.Parent)
		return
	}
	c := &s.all[update.Name]
	if !c.mounted || c.generation != generation {
		return
	}
	switch update.Kind {
	case api.Unmount:
		s.unmount(update.Name)
	case api.Put:
		c.fields[update.Field-1] = update.N
	case api.Add:
		c.fields[update.Field-1] += update.N
	case api.Push:
		c.push(update.N)
	case api.Pull:
		c.pull(update.N)
	case api.Swap:
		c.swap(update.N, update.M)
	}
}

func (s *Set) mount(name, parent int) {
	if s.all[name].mounted || parent != 0 && !s.hasRoom(parent) {
		return
	}
	s.all[name] = component{mounted: true, generation: s.all[name].generation + 1, parent: parent}
}

// hasRoom tells whether a component may have one more below it.
func (s *Set) hasRoom(name int) bool {
	return s.all[name].mounted && s.above(name)+1 < api.MaxNest
}

func (s *Set) above(name int) int {
	n := 0
	for p := s.all[name].parent; p != 0; p = s.all[p].parent {
		n++
	}
	return n
}

func (s *Set) unmount(name int) {
	s.all[name] = component{generation: s.all[name].generation}
	for kid, c := range s.all {
		if c.mounted && c.parent == name {
			s.unmount(kid)
		}
	}
}

func (c *component) push(n int) {
	if !slices.Contains(c.numbers, n) && len(c.numbers) < api.MaxList {
		c.numbers = append(c.numbers, n)
	}
}

func (c *component) pull(n int) {
	c.numbers = slices.DeleteFunc(c.numbers, func(m int) bool { return m == n })
}

func (c *component) swap(n, m int) {
	if l := c.numbers; len(l) > 0 {
		n, m = n%len(l), m%len(l)
		l[n], l[m] = l[m], l[n]
	}
}
