package batten_test

import (
	"math"
	"reflect"
	"slices"
	"strings"
	"testing"
	"unsafe"

	"batten/api"
	"batten/batten"
)

// alike: whether two trees are the same; a list without elements may be nil or not.
func alike(a, b []api.Node) bool {
	return slices.EqualFunc(a, b, func(x, y api.Node) bool {
		return x.Depth == y.Depth && x.Tag == y.Tag && x.Key == y.Key && x.Text == y.Text && slices.Equal(x.Attrs, y.Attrs)
	})
}

// newDom: a document of a list that is a tree.
func newDom(t *testing.T, l []api.Node) *batten.Dom {
	t.Helper()
	d, no, at := batten.NewDom(l)
	if d == nil || no != api.OK || at != 0 {
		t.Fatalf("P4: NewDom(%v) = %v, %d, %d, want a document", l, d, no, at)
	}
	return d
}

// shows: what Tree, IDs and Loose tell.
func shows(t *testing.T, d *batten.Dom, l []api.Node, ids []int, loose int) {
	t.Helper()
	if got := d.Tree(); !alike(got, l) {
		t.Fatalf("P4: Tree() = %v, want %v", got, l)
	}
	if got := d.IDs(); !slices.Equal(got, ids) {
		t.Fatalf("P4: IDs() = %v, want %v", got, ids)
	}
	if got := d.Loose(); got != loose {
		t.Fatalf("P4: Loose() = %d, want %d", got, loose)
	}
}

// upTo: the numbers from 1 on.
func upTo(n int) []int {
	var l []int
	for i := range n {
		l = append(l, i+1)
	}
	return l
}

// overwrite writes into all of a tree, its attributes and their spare room.
func overwrite(l []api.Node) {
	l = l[:cap(l)]
	for i := range l {
		a := l[i].Attrs[:cap(l[i].Attrs)]
		for k := range a {
			a[k] = at("over", "over")
		}
		l[i] = el(77, "over", 77)
	}
}

func TestNewDomOrdinary(t *testing.T) {
	for _, l := range [][]api.Node{
		list(el(0, "div", 0)),
		list(el(0, "div", math.MaxInt, attrs(5)...)),
		below(el(1, "p", 1), tx(2, "x"), el(1, "p", 2, at("a", ""), at("b", "y")), el(2, "q", 0), tx(3, ""), tx(1, "z")),
		append(chain(12), el(1, "p", 0), el(2, "p", 0), el(1, "p", 3)),
		append(chain(12), el(11, "z", 1), el(5, "p", 0), tx(6, "x")),
		chain(12),
		wide(399),
		wide(400),
	} {
		shows(t, newDom(t, l), l, upTo(len(l)), 0)
	}
}

func TestNewDomAsCheck(t *testing.T) {
	wrong := wide(400)
	wrong[399].Key = 1
	for _, l := range [][]api.Node{
		nil, list(), wide(401), make([]api.Node, 100000), make([]api.Node, 400), wrong,
		list(tx(0, "x")), list(el(1, "a", 0)), list(el(0, "A", 0)), below(el(2, "a", 0)), below(el(0, "a", 0)),
		below(tx(1, ""), tx(2, "")), below(el(1, "a", 1), el(1, "b", 1)), chain(13), below(el(math.MaxInt, "a", 0)),
		below(el(1, "a", 0, attrs(6)...)), below(tx(1, strings.Repeat("x", 21))), below(el(1, "a", -1)),
	} {
		wantNo, wantAt := batten.Check(l)
		if d, no, at := batten.NewDom(l); d != nil || no != wantNo || at != wantAt || no == api.OK {
			t.Errorf("P4: NewDom = %v, %d, %d, want nil, %d, %d", d, no, at, wantNo, wantAt)
		}
	}
}

// TestNewDomAllSmall: every list of up to four of these nodes.
func TestNewDomAllSmall(t *testing.T) {
	pool := list(el(0, "a", 0), el(1, "a", 0), el(1, "a", 1), el(1, "b", 2, at("x", "1")), el(2, "a", 1), el(3, "a", 1), tx(1, "x"), tx(2, ""), tx(3, "y"), el(1, "A", 0))
	var try func(l []api.Node)
	try = func(l []api.Node) {
		wantNo, wantAt := plainCheck(l)
		d, no, at := batten.NewDom(l)
		if no != wantNo || at != wantAt || (d != nil) != (no == api.OK) {
			t.Fatalf("P4: NewDom(%v) = %v, %d, %d, want %d, %d", l, d, no, at, wantNo, wantAt)
		}
		if d != nil {
			shows(t, d, l, upTo(len(l)), 0)
		}
		if len(l) == 4 {
			return
		}
		for _, n := range pool {
			try(append(l[:len(l):len(l)], n))
		}
	}
	try(nil)
}

// TestTreeAttrs: they rise, however they came to be.
func TestTreeAttrs(t *testing.T) {
	d := newDom(t, below(el(1, "p", 0, at("b", "1"))))
	applies(t, d, api.OK, 0,
		set(2, "c", "2"), set(2, "a", "3"),
		set(2, "bb", "4"), set(2, "aa", "5"))
	shows(t, d, below(el(1, "p", 0, at("a", "3"), at("aa", "5"), at("b", "1"), at("bb", "4"), at("c", "2"))), upTo(2), 0)
}

// TestTreeBeyondCheck: deeper, wider and with keys alike: no list that Check takes.
func TestTreeBeyondCheck(t *testing.T) {
	d := newDom(t, below(el(1, "p", 3)))
	want := below(el(1, "p", 3), el(1, "p", 3))
	applies(t, d, api.OK, 0, create(3, "p", 3), insert(3, 1, 0))
	for id := 4; id <= 800; id++ {
		applies(t, d, api.OK, 0, create(id, "q", 0), insert(id, id-1, 0))
		want = append(want, el(id-2, "q", 0))
	}
	shows(t, d, want, upTo(800), 0)
}

func TestLoose(t *testing.T) {
	l := below(el(1, "p", 0), tx(2, "x"))
	d := newDom(t, l)
	applies(t, d, api.OK, 0, create(4, "p", 0))
	shows(t, d, l, upTo(3), 1)
	applies(t, d, api.OK, 0, createText(5, "y"), create(6, "q", 0))
	shows(t, d, l, upTo(3), 3)
	applies(t, d, api.OK, 0, insert(5, 4, 0), insert(4, 6, 0))
	shows(t, d, l, upTo(3), 3)
	applies(t, d, api.OK, 0, insert(2, 4, 5))
	shows(t, d, below(), upTo(1), 5)
	applies(t, d, api.OK, 0, insert(4, 1, 0))
	shows(t, d, below(el(1, "p", 0), el(2, "p", 0), tx(3, "x"), tx(2, "y")), []int{1, 4, 2, 3, 5}, 1)
	applies(t, d, api.OK, 0, remove(6))
	shows(t, d, below(el(1, "p", 0), el(2, "p", 0), tx(3, "x"), tx(2, "y")), []int{1, 4, 2, 3, 5}, 0)
}

// TestNewDomWritesNothing: neither the list nor its spare room, then or later (P2).
func TestNewDomWritesNothing(t *testing.T) {
	build := func() []api.Node {
		l := append(make([]api.Node, 0, 8), el(0, "div", 0), el(1, "p", 1), tx(2, "x"), el(5, "spare", -1), tx(6, "room"))
		l[1].Attrs = append(make([]api.Attr, 0, 4), at("b", "1"), at("c", "2"), at("spare", "s"), at("room", "r"))[:2]
		return l[:3]
	}
	l, want := build(), build()
	d := newDom(t, l)
	applies(t, d, api.OK, 0,
		set(2, "d", "3"), set(2, "b", "4"), set(2, "a", "5"),
		unset(2, "c"), write(3, "y"), create(4, "q", 0),
		insert(4, 1, 2), remove(3))
	if !reflect.DeepEqual(l[:8], want[:8]) || !reflect.DeepEqual(l[1].Attrs[:4], want[1].Attrs[:4]) {
		t.Errorf("P2: the list was written into: %v, want %v", l[:8], want[:8])
	}
}

// TestNewDomKeepsNothing: what is written into the list behind the call does not show (P2).
func TestNewDomKeepsNothing(t *testing.T) {
	build := func() []api.Node { return below(el(1, "p", 1, attrs(3)...), tx(2, "x"), el(1, "q", 2, attrs(1)...)) }
	l := build()
	d := newDom(t, l)
	overwrite(l)
	shows(t, d, build(), upTo(4), 0)
}

// TestTextsAreNotKept: the bytes of a text that was handed in are not those that are kept (P2).
func TestTextsAreNotKept(t *testing.T) {
	b := []byte("pabxyz")
	piece := func(i, n int) string { return unsafe.String(&b[i], n) }
	d := newDom(t, list(el(0, piece(0, 1), 0, at(piece(1, 1), piece(3, 1))), tx(1, piece(4, 1))))
	applies(t, d, api.OK, 0,
		set(1, piece(2, 1), piece(5, 1)), create(3, piece(0, 1), 0), insert(3, 1, 0),
		createText(4, piece(3, 1)), insert(4, 3, 0), write(2, piece(4, 2)))
	copy(b, "......")
	shows(t, d, list(el(0, "p", 0, at("a", "x"), at("b", "z")), tx(1, "yz"), el(1, "p", 0), tx(2, "x")), upTo(4), 0)
}

// TestAnswersAreNew: writing into an answer changes no other and no later one (P2).
func TestAnswersAreNew(t *testing.T) {
	l := below(el(1, "p", 1, attrs(3)...), tx(2, "x"), el(1, "q", 2, attrs(1)...), el(1, "r", 0, attrs(2)...))
	d := newDom(t, l)
	other := newDom(t, l)
	applies(t, d, api.OK, 0, unset(2, "b"), unset(4, "a"))
	want := below(el(1, "p", 1, at("a", "v"), at("c", "v")), tx(2, "x"), el(1, "q", 2), el(1, "r", 0, attrs(2)...))
	kept, keptIDs := d.Tree(), d.IDs()
	over, overIDs := d.Tree(), d.IDs()
	overwrite(over)
	for i := range overIDs[:cap(overIDs)] {
		overIDs[:cap(overIDs)][i] = 77
	}
	if !alike(kept, want) || !slices.Equal(keptIDs, upTo(5)) {
		t.Errorf("P2: another answer was changed: %v, %v", kept, keptIDs)
	}
	shows(t, d, want, upTo(5), 0)
	shows(t, other, l, upTo(5), 0)
	applies(t, d, api.OK, 0, set(2, "b", "w"), remove(5))
	if !alike(kept, want) || !slices.Equal(keptIDs, upTo(5)) {
		t.Errorf("P2: an answer was changed by a later call: %v, %v", kept, keptIDs)
	}
}

// TestAttrsShareNoRoom: each list of attributes within one answer has its own room (P2).
func TestAttrsShareNoRoom(t *testing.T) {
	l := list(el(0, "a", 0, attrs(1)...), el(1, "a", 0, attrs(2)...), el(1, "a", 0, attrs(3)...), el(1, "a", 0, attrs(4)...))
	d := newDom(t, l)
	for i := range l {
		got := d.Tree()
		a := got[i].Attrs[:cap(got[i].Attrs)]
		for k := range a {
			a[k] = at("over", "over")
		}
		for k := range l {
			if k != i && !slices.Equal(got[k].Attrs, l[k].Attrs) {
				t.Errorf("P2: the attributes of node %d were changed by those of node %d: %v", k, i, got[k].Attrs)
			}
		}
	}
}
