package component

import (
	"strconv"

	"batten/api"
	"batten/tree"
)

// keyOfZero is the key of the number 0: it keeps the keys of numbers apart from
// those of components, which are their names.
const keyOfZero = 100

var fieldNames = [Fields]string{"a", "b", "c"}

// Tree tells what is to be seen at a version.
func (s *Set) Tree(version int) []api.Node {
	v := api.Attr{Name: "v", Value: strconv.Itoa(version)}
	return tree.Join(api.Node{Tag: "ui", Attrs: []api.Attr{v}}, s.within(0, 1)...)
}

// within is a part for each component that has that parent, by rising names.
func (s *Set) within(parent, depth int) [][]api.Node {
	var parts [][]api.Node
	for name, c := range s.all {
		if c.mounted && c.parent == parent {
			parts = append(parts, s.part(name, depth))
		}
	}
	return parts
}

func (s *Set) part(name, depth int) []api.Node {
	c := s.all[name]
	var parts [][]api.Node
	for _, n := range c.numbers {
		parts = append(parts, numberPart(n, depth+1))
	}
	parts = append(parts, s.within(name, depth+1)...)
	return tree.Join(api.Node{Depth: depth, Tag: "c", Key: name, Attrs: c.attrs()}, parts...)
}

func (c component) attrs() []api.Attr {
	var l []api.Attr
	for i, n := range c.fields {
		if n != 0 {
			l = append(l, api.Attr{Name: fieldNames[i], Value: strconv.Itoa(n)})
		}
	}
	return l
}

func numberPart(n, depth int) []api.Node {
	digits := api.Node{Depth: depth + 1, Text: strconv.Itoa(n)}
	return tree.Join(api.Node{Depth: depth, Tag: "i", Key: keyOfZero + n}, []api.Node{digits})
}
