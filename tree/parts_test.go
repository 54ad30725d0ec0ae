package tree_test

import (
	"reflect"
	"testing"

	"batten/api"
	"batten/tree"
)

// at: elements at these depths, each with a key that tells where it stands.
func at(depths ...int) []api.Node {
	var l []api.Node
	for i, d := range depths {
		l = append(l, api.Node{Depth: d, Tag: "a", Key: i + 1})
	}
	return l
}

func TestPartsAndJoin(t *testing.T) {
	for _, c := range []struct {
		depths, sizes []int
	}{
		{[]int{0}, nil},
		{[]int{0, 1}, []int{1}},
		{[]int{0, 1, 1, 1}, []int{1, 1, 1}},
		{[]int{0, 1, 2, 3, 1, 2, 2, 1}, []int{3, 3, 1}},
		{[]int{0, 1, 2, 3, 2}, []int{4}},
		{[]int{4, 5, 6, 5, 5, 6}, []int{2, 1, 2}},
	} {
		l := at(c.depths...)
		parts := tree.Parts(l)
		var sizes []int
		for _, p := range parts {
			sizes = append(sizes, len(p))
		}
		if !reflect.DeepEqual(sizes, c.sizes) {
			t.Errorf("Parts of the depths %v have the sizes %v, want %v", c.depths, sizes, c.sizes)
		}
		joined := tree.Join(l[0], parts...)
		if !reflect.DeepEqual(joined, l) {
			t.Errorf("Join of the parts of %v: %v", l, joined)
		}
		clear(joined[:cap(joined)])
		if !reflect.DeepEqual(l, at(c.depths...)) {
			t.Errorf("Join shares memory with its parts: %v", l)
		}
	}
}
