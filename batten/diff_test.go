package batten_test

import (
	"math"
	"math/rand"
	"reflect"
	"slices"
	"strings"
	"testing"
	"unsafe"

	"batten/api"
	"batten/batten"
)

// both: a document, and the plain model of it.
type both struct {
	d *batten.Dom
	m *model
}

func newBoth(t *testing.T, l []api.Node) both {
	t.Helper()
	return both{newDom(t, l), newModel(l)}
}

func (b both) do(t *testing.T, l ...api.Patch) {
	t.Helper()
	no, at := b.m.apply(l...)
	applies(t, b.d, no, at, l...)
}

// parents: of each node of a tree, where its parent stands.
func parents(l []api.Node) []int {
	var p []int
	for i := range l {
		p = append(p, parentIn(l, i))
	}
	return p
}

// alikeAhead: how many children of the same parent, with the same tag and key, stand ahead of a node.
func alikeAhead(l []api.Node, up []int, i int) int {
	n := 0
	for j := range i {
		if up[j] == up[i] && l[j].Tag == l[i].Tag && l[j].Key == l[i].Key {
			n++
		}
	}
	return n
}

// plainPairs: of each node of want, which node of l it is a pair with, or -1.
func plainPairs(l, want []api.Node) []int {
	up, wantUp := parents(l), parents(want)
	pair := []int{0}
	for j := 1; j < len(want); j++ {
		pair = append(pair, -1)
		for i := 1; i < len(l) && pair[wantUp[j]] >= 0; i++ {
			a, b := l[i], want[j]
			if up[i] != pair[wantUp[j]] || a.Tag != b.Tag || a.Key != b.Key {
				continue
			}
			if a.Key != 0 && alikeAhead(l, up, i) == 0 || a.Key == 0 && alikeAhead(l, up, i) == alikeAhead(want, wantUp, j) {
				pair[j] = i
			}
		}
	}
	return pair
}

// mostInOrder: how many numbers of two lists stand in the same order in both.
func mostInOrder(a, b []int) int {
	if len(a) == 0 || len(b) == 0 {
		return 0
	}
	most := make([][]int, len(a)+1)
	for i := range most {
		most[i] = make([]int, len(b)+1)
	}
	for i := range a {
		for j := range b {
			most[i+1][j+1] = max(most[i][j+1], most[i+1][j])
			if a[i] == b[j] {
				most[i+1][j+1] = most[i][j] + 1
			}
		}
	}
	return most[len(a)][len(b)]
}

// plainMoves: of the children of a pair, how many must be inserted anew.
func plainMoves(l, want []api.Node, pair []int, of int) int {
	var ahead, behind []int
	up, wantUp := parents(l), parents(want)
	for j := range want {
		if j > 0 && wantUp[j] == of && pair[j] >= 0 {
			behind = append(behind, pair[j])
		}
	}
	for i := range l {
		if i > 0 && up[i] == pair[of] && slices.Contains(behind, i) {
			ahead = append(ahead, i)
		}
	}
	return len(behind) - mostInOrder(ahead, behind)
}

// attrPatches: what sets and unsets the attributes of a node.
func attrPatches(id int, has, want []api.Attr) []api.Patch {
	var l []api.Patch
	named := func(l []api.Attr, name string) bool {
		return slices.ContainsFunc(l, func(a api.Attr) bool { return a.Name == name })
	}
	for _, a := range has {
		if !named(want, a.Name) {
			l = append(l, unset(id, a.Name))
		}
	}
	for _, a := range want {
		if !slices.Contains(has, a) {
			l = append(l, set(id, a.Name, a.Value))
		}
	}
	return l
}

// plainWay: the patches that there must be, but for Creates and Inserts, by
// the numbers that nodes have behind them; and how many moves of children of
// each parent.
func plainWay(l, want []api.Node, ids, now []int) (others []api.Patch, moves map[int]int) {
	pair := plainPairs(l, want)
	moves = map[int]int{}
	for i, up := range parents(l) {
		if i > 0 && !slices.Contains(pair, i) && slices.Contains(pair, up) {
			others = append(others, remove(ids[i]))
		}
	}
	for j, i := range pair {
		if i < 0 {
			others = append(others, attrPatches(now[j], nil, want[j].Attrs)...)
			continue
		}
		others = append(others, attrPatches(ids[i], l[i].Attrs, want[j].Attrs)...)
		if l[i].Text != want[j].Text {
			others = append(others, write(ids[i], want[j].Text))
		}
		if n := plainMoves(l, want, pair, j); n > 0 {
			moves[ids[i]] = n
		}
	}
	return others, moves
}

// sorted: patches in an order that hangs on them alone.
func sorted(l []api.Patch) []api.Patch {
	l = slices.Clone(l)
	slices.SortFunc(l, func(a, b api.Patch) int {
		if a.Kind != b.Kind {
			return a.Kind - b.Kind
		}
		if a.ID != b.ID {
			return a.ID - b.ID
		}
		return strings.Compare(a.Name, b.Name)
	})
	return l
}

// sameCounts: whether two counts are alike.
func sameCounts(a, b map[int]int) bool {
	return len(a) == len(b) && (len(a) == 0 || reflect.DeepEqual(a, b))
}

// looseRows: the rows of the plain model that are not attached, and their order within parents.
func looseRows(m *model) []record {
	var l []record
	for _, r := range m.rows {
		if !m.within(r.id, 1) {
			l = append(l, r)
		}
	}
	return l
}

// counted: that the patches are those that P6 names, no more and no fewer.
func counted(t *testing.T, patches []api.Patch, l, want []api.Node, ids, now []int) {
	t.Helper()
	var others []api.Patch
	created, placed, moved := map[int]int{}, map[int]int{}, map[int]int{}
	for _, p := range patches {
		at := slices.Index(now, p.ID)
		switch {
		case p.Kind == api.Create:
			created[p.ID]++
		case p.Kind != api.Insert:
			others = append(others, p)
		case slices.Contains(ids, p.ID):
			moved[p.Parent]++
		default:
			placed[p.ID]++
		}
		if p.Kind == api.Insert && (at < 1 || now[parentIn(want, at)] != p.Parent) {
			t.Fatalf("P6: %+v: that is not where it goes", p)
		}
	}
	must := map[int]int{}
	for j, i := range plainPairs(l, want) {
		if i < 0 {
			must[now[j]] = 1
		} else if now[j] != ids[i] {
			t.Fatalf("P6: from %v to %v: IDs() = %v, were %v: node %d has not kept its own", l, want, now, ids, j)
		}
	}
	wantOthers, wantMoves := plainWay(l, want, ids, now)
	if !sameCounts(created, must) || !sameCounts(placed, must) {
		t.Fatalf("P6: from %v to %v: created %v, inserted %v, want %v", l, want, created, placed, must)
	}
	if !slices.Equal(sorted(others), sorted(wantOthers)) {
		t.Fatalf("P6: from %v to %v: %+v, want %+v", l, want, sorted(others), sorted(wantOthers))
	}
	if !sameCounts(moved, wantMoves) {
		t.Fatalf("P6: from %v to %v: moved by parent %v, want %v", l, want, moved, wantMoves)
	}
}

// diffs: the patches that Diff tells; it tells them twice alike and changes nothing.
func diffs(t *testing.T, d *batten.Dom, want []api.Node) []api.Patch {
	t.Helper()
	was, ids, loose := d.Tree(), d.IDs(), d.Loose()
	l, no, at := d.Diff(want)
	again, _, _ := d.Diff(want)
	if no != api.OK || at != 0 || !slices.Equal(l, again) {
		t.Fatalf("P6: from %v: Diff(%v) = %+v, %d, %d, and then %+v", was, want, l, no, at, again)
	}
	shows(t, d, was, ids, loose)
	return l
}

// bring: all that P6 says of a document and a tree; the document is that tree then.
func (b both) bring(t *testing.T, want []api.Node) []api.Patch {
	t.Helper()
	was, ids, loose := b.d.Tree(), b.d.IDs(), looseRows(b.m)
	l := diffs(t, b.d, want)
	for i, p := range l {
		if !b.m.do(p) {
			t.Fatalf("P6: from %v to %v: %+v: patch %d can not be done", was, want, l, i)
		}
	}
	applies(t, b.d, api.OK, 0, l...)
	seen, now := b.m.seen(1, 0)
	if !alike(seen, want) || !reflect.DeepEqual(looseRows(b.m), loose) {
		t.Fatalf("P6: from %v to %v: there is %v, loose are %v, were %v", was, want, seen, looseRows(b.m), loose)
	}
	shows(t, b.d, want, now, len(loose))
	counted(t, l, was, want, ids, now)
	if none := diffs(t, b.d, want); len(none) != 0 {
		t.Fatalf("P6: to itself: %+v", none)
	}
	return l
}

// byKinds: how many patches there are of each kind, from Create on.
func byKinds(l []api.Patch) (n [6]int) {
	for _, p := range l {
		n[p.Kind-1]++
	}
	return n
}

// ul: a list of children by their keys.
func ul(keys ...int) []api.Node {
	l := list(el(0, "ul", 0))
	for _, k := range keys {
		l = append(l, el(1, "li", k))
	}
	return l
}

// diffCase: so many patches of each kind, and what the numbers are then (0: any).
type diffCase struct {
	name     string
	from, to []api.Node
	kinds    [6]int
	ids      []int
}

func runDiffs(t *testing.T, cases []diffCase) {
	t.Helper()
	for _, c := range cases {
		b := newBoth(t, c.from)
		l := b.bring(t, c.to)
		if byKinds(l) != c.kinds {
			t.Errorf("P6: %s: %+v, want of the kinds %v", c.name, l, c.kinds)
		}
		for i, id := range b.d.IDs() {
			if id != c.ids[i] && c.ids[i] != 0 || id <= len(c.from) && c.ids[i] == 0 {
				t.Errorf("P6: %s: IDs() = %v, want %v", c.name, b.d.IDs(), c.ids)
			}
		}
	}
}

func TestDiffExamples(t *testing.T) {
	p := func(tag string, key int) api.Node { return el(1, tag, key) }
	from := below(p("p", 1), p("p", 2))
	runDiffs(t, []diffCase{
		{"the other way round", from, below(p("p", 2), p("p", 1)), [6]int{0, 1}, []int{1, 3, 2}},
		{"one less", from, below(p("p", 2)), [6]int{0, 0, 1}, []int{1, 3}},
		{"another tag", from, below(p("p", 1), p("q", 2)), [6]int{1, 1, 1}, []int{1, 2, 0}},
	})
	l := diffs(t, newDom(t, from), below(p("p", 2), p("p", 1)))
	if l[0] != insert(3, 1, 2) && l[0] != insert(2, 1, 0) {
		t.Errorf("P6: %+v, want an Insert of 3 ahead of 2, or of 2 behind 3", l)
	}
	if l := diffs(t, newDom(t, from), below(p("p", 2))); !slices.Equal(l, []api.Patch{remove(2)}) {
		t.Errorf("P6: %+v, want a Remove of 2", l)
	}
}

func TestDiffMoves(t *testing.T) {
	runDiffs(t, []diffCase{
		{"nothing", ul(1, 2, 3), ul(1, 2, 3), [6]int{}, upTo(4)},
		{"the last one first", ul(1, 2, 3, 4, 5), ul(5, 1, 2, 3, 4), [6]int{0, 1}, []int{1, 6, 2, 3, 4, 5}},
		{"the first one last", ul(1, 2, 3, 4, 5), ul(2, 3, 4, 5, 1), [6]int{0, 1}, []int{1, 3, 4, 5, 6, 2}},
		{"from behind", ul(1, 2, 3, 4, 5), ul(5, 4, 3, 2, 1), [6]int{0, 4}, []int{1, 6, 5, 4, 3, 2}},
		{"two change places", ul(1, 2, 3, 4, 5), ul(1, 4, 3, 2, 5), [6]int{0, 2}, []int{1, 2, 5, 4, 3, 6}},
		{"a long row behind a short one", ul(5, 6, 1, 2, 3), ul(1, 2, 3, 5, 6), [6]int{0, 2}, []int{1, 4, 5, 6, 2, 3}},
		{"rows that cross", ul(1, 2, 3, 4, 5, 6), ul(4, 1, 5, 2, 6, 3), [6]int{0, 3}, []int{1, 5, 2, 6, 3, 7, 4}},
		{"some go, some come, some move", ul(1, 2, 3, 4, 5), ul(9, 4, 8, 2, 7), [6]int{3, 4, 3}, []int{1, 0, 5, 0, 3, 0}},
		{"all go", ul(1, 2, 3), ul(), [6]int{0, 0, 3}, []int{1}},
		{"all come", ul(), ul(3, 1, 2), [6]int{3, 3}, []int{1, 0, 0, 0}},
		{"all are others", ul(1, 2), ul(3, 4), [6]int{2, 2, 2}, []int{1, 0, 0}},
		{"the greatest key", ul(math.MaxInt, 1), ul(1, math.MaxInt), [6]int{0, 1}, []int{1, 3, 2}},
	})
}

func TestDiffPairs(t *testing.T) {
	runDiffs(t, []diffCase{
		{"a key with another tag", below(el(1, "p", 1), el(1, "q", 2)), below(el(1, "p", 2), el(1, "q", 1)), [6]int{2, 2, 2}, []int{1, 0, 0}},
		{"a key that goes", below(el(1, "p", 1)), below(el(1, "p", 0)), [6]int{1, 1, 1}, []int{1, 0}},
		{"a key that comes", below(el(1, "p", 0)), below(el(1, "p", 1)), [6]int{1, 1, 1}, []int{1, 0}},
		{"without key, another tag", below(el(1, "p", 0)), below(el(1, "q", 0)), [6]int{1, 1, 1}, []int{1, 0}},
		{"an element, a text node", below(el(1, "p", 0)), below(tx(1, "p")), [6]int{1, 1, 1}, []int{1, 0}},
		{"a text node, an element", below(tx(1, "p")), below(el(1, "p", 0)), [6]int{1, 1, 1}, []int{1, 0}},
		{"without key, one ahead goes", below(el(1, "p", 0, at("a", "1")), el(1, "p", 0, at("a", "2"))), below(el(1, "p", 0, at("a", "2"))), [6]int{0, 0, 1, 1}, []int{1, 2}},
		{"without key, one comes ahead", below(el(1, "p", 0)), below(el(1, "p", 0), el(1, "p", 0)), [6]int{1, 1}, []int{1, 2, 0}},
		{"without key, counted by tags", below(el(1, "p", 0), el(1, "q", 0), el(1, "p", 0)), below(el(1, "q", 0), el(1, "p", 0), el(1, "p", 0)), [6]int{0, 1}, []int{1, 3, 2, 4}},
		{"without key, those with one do not count", below(el(1, "p", 1), el(1, "p", 0)), below(el(1, "p", 0), el(1, "p", 1)), [6]int{0, 1}, []int{1, 3, 2}},
		{"texts counted apart from elements", below(tx(1, "a"), el(1, "p", 0), tx(1, "b")), below(el(1, "p", 0), tx(1, "a"), tx(1, "b")), [6]int{0, 1}, []int{1, 3, 2, 4}},
		{"texts, one ahead goes", below(tx(1, "a"), tx(1, "b"), tx(1, "c")), below(tx(1, "b"), tx(1, "c")), [6]int{0, 0, 1, 0, 0, 2}, []int{1, 2, 3}},
		{"an empty text", below(tx(1, "")), below(tx(1, "x")), [6]int{0, 0, 0, 0, 0, 1}, []int{1, 2}},
		{"a text that is empty then", below(tx(1, "x")), below(tx(1, "")), [6]int{0, 0, 0, 0, 0, 1}, []int{1, 2}},
		{"nodes within others do not change their parent", below(el(1, "p", 1), el(2, "q", 1), el(1, "p", 2)), below(el(1, "p", 1), el(1, "p", 2), el(2, "q", 1)), [6]int{1, 1, 1}, []int{1, 2, 4, 0}},
		{"what is within one that goes, goes with it", below(el(1, "p", 1), el(2, "q", 1), tx(3, "x")), below(el(1, "p", 2), el(2, "q", 1), tx(3, "x")), [6]int{3, 3, 1}, []int{1, 0, 0, 0}},
		{"moves within one that moves", append(ul(1, 2), el(2, "p", 1), el(2, "p", 2)), list(el(0, "ul", 0), el(1, "li", 2), el(2, "p", 2), el(2, "p", 1), el(1, "li", 1)), [6]int{0, 2}, []int{1, 3, 5, 4, 2}},
	})
}

func TestDiffAttrs(t *testing.T) {
	one := func(l ...api.Attr) []api.Node { return list(el(0, "a", 3, l...)) }
	five := attrs(5)
	runDiffs(t, []diffCase{
		{"the same", one(five...), one(five...), [6]int{}, upTo(1)},
		{"one goes, another comes at the end", one(five...), one(attrs(6)[1:]...), [6]int{0, 0, 0, 1, 1}, upTo(1)},
		{"one goes, another comes ahead", one(attrs(6)[1:]...), one(five...), [6]int{0, 0, 0, 1, 1}, upTo(1)},
		{"all are others", one(attrs(5)...), one(attrs(10)[5:]...), [6]int{0, 0, 0, 5, 5}, upTo(1)},
		{"all go", one(five...), one(), [6]int{0, 0, 0, 0, 5}, upTo(1)},
		{"all come", one(), one(five...), [6]int{0, 0, 0, 5}, upTo(1)},
		{"another value", one(at("a", "x"), at("b", "y")), one(at("a", "y"), at("b", "y")), [6]int{0, 0, 0, 1}, upTo(1)},
		{"an empty value", one(at("a", "x")), one(at("a", "")), [6]int{0, 0, 0, 1}, upTo(1)},
		{"an empty value that comes", one(), one(at("a", "")), [6]int{0, 0, 0, 1}, upTo(1)},
		{"an empty value that goes", one(at("a", "")), one(), [6]int{0, 0, 0, 0, 1}, upTo(1)},
		{"a value of another name", one(at("a", "x")), one(at("b", "x")), [6]int{0, 0, 0, 1, 1}, upTo(1)},
		{"of one that is created", one(), append(one(), el(1, "p", 7, five...), el(2, "p", 7, at("z", "")), tx(3, "deep")), [6]int{3, 3, 0, 6}, upTo(4)},
		{"of one that moves", below(el(1, "p", 1, five...), el(1, "p", 2)), below(el(1, "p", 2, at("a", "")), el(1, "p", 1, attrs(6)[1:]...)), [6]int{0, 1, 0, 2, 1}, []int{1, 3, 2}},
	})
}

// TestDiffSameKeys: of children of the document that are alike the first one counts.
func TestDiffSameKeys(t *testing.T) {
	b := newBoth(t, ul(1, 2))
	b.do(t, create(4, "li", 2), insert(4, 1, 2), create(5, "li", 2), insert(5, 1, 0), create(6, "p", 2), insert(6, 1, 4))
	// now 6 p 2, 4 li 2, 2 li 1, 3 li 2, 5 li 2
	l := b.bring(t, ul(1, 2))
	if byKinds(l) != [6]int{0, 1, 3} || !slices.Equal(b.d.IDs(), []int{1, 2, 4}) {
		t.Errorf("P6: %+v: IDs() = %v, want 1, 2, 4", l, b.d.IDs())
	}
	b = newBoth(t, ul(1, 2))
	b.do(t, create(4, "li", 2), insert(4, 1, 2), createText(5, "x"), insert(5, 3, 0))
	l = b.bring(t, list(el(0, "ul", 0), el(1, "li", 2), tx(2, "x")))
	if byKinds(l) != [6]int{1, 1, 2} || b.d.IDs()[1] != 4 {
		t.Errorf("P6: %+v: IDs() = %v, want the first one with the key", l, b.d.IDs())
	}
}

// TestDiffLoose: loose nodes stay as they are, and are of no pair.
func TestDiffLoose(t *testing.T) {
	for _, to := range [][]api.Node{
		below(), smallTree(), below(el(1, "n", 0), el(2, "m", 4), tx(1, "z")),
		below(el(1, "p", 2), el(2, "n", 0), el(1, "p", 1), tx(1, "y"), tx(1, "z")),
	} {
		b := both{small(t), smallModel()}
		b.bring(t, to)
		b.do(t, write(9, "still"), insert(9, 8, 0), insert(7, 1, 0))
		b.bring(t, to)
	}
}

// TestDiffDeep: a document that is deeper than a tree may be.
func TestDiffDeep(t *testing.T) {
	b := newBoth(t, chain(12))
	for id := 13; id <= 60; id++ {
		b.do(t, create(id, "a", 0), insert(id, id-1, 0))
	}
	l := b.bring(t, append(chain(12), el(11, "b", 0)))
	if byKinds(l) != [6]int{1, 1, 1} || !slices.Contains(l, remove(13)) {
		t.Errorf("P6: %+v, want a Remove of 13, and one that is created", l)
	}
	d := newDom(t, chain(12))
	for id := 13; id <= 788; id++ {
		applies(t, d, api.OK, 0, create(id, "a", 0), insert(id, id-1, 0))
	}
	if l := diffs(t, d, chain(12)); !slices.Equal(l, []api.Patch{remove(13)}) {
		t.Errorf("P6: %+v, want a Remove of 13", l)
	}
	if l := diffs(t, d, chain(1)); !slices.Equal(l, []api.Patch{remove(2)}) {
		t.Errorf("P6: %+v, want a Remove of 2", l)
	}
}

// TestDiffDeepDown: what is at the end of the deepest tree.
func TestDiffDeepDown(t *testing.T) {
	end := func(n api.Node) []api.Node { return append(chain(11), n) }
	runDiffs(t, []diffCase{
		{"a text", end(tx(11, "x")), end(tx(11, "y")), [6]int{0, 0, 0, 0, 0, 1}, upTo(12)},
		{"an attribute", end(el(11, "p", 1)), end(el(11, "p", 1, at("a", ""))), [6]int{0, 0, 0, 1}, upTo(12)},
		{"another one", end(el(11, "p", 1)), end(el(11, "p", 2)), [6]int{1, 1, 1}, append(upTo(11), 0)},
		{"all of it comes", chain(1), chain(12), [6]int{11, 11}, upTo(12)},
		{"all of it goes", chain(12), chain(1), [6]int{0, 0, 1}, upTo(1)},
	})
}

// diffRefused: an error, and nothing beside the place.
func diffRefused(t *testing.T, d *batten.Dom, l []api.Node, no api.Errno, at int) {
	t.Helper()
	was, ids, loose := d.Tree(), d.IDs(), d.Loose()
	if got, gotNo, gotAt := d.Diff(l); len(got) != 0 || gotNo != no || gotAt != at {
		t.Fatalf("P6: Diff(%v) = %v, %d, %d, want nothing, %d, %d", l, got, gotNo, gotAt, no, at)
	}
	shows(t, d, was, ids, loose)
}

func TestDiffAsCheck(t *testing.T) {
	d := newDom(t, list(el(0, "a", 3), tx(1, "x")))
	full := newDom(t, list(el(0, "a", 3)))
	for id := 2; id <= 800; id++ {
		applies(t, full, api.OK, 0, create(id, "n", 0))
	}
	wrong := wide(400)
	wrong[399].Key = 1
	for _, l := range [][]api.Node{
		nil, list(), make([]api.Node, 0, 4), wide(401), make([]api.Node, 100000), make([]api.Node, 400), wrong,
		list(tx(0, "x")), list(el(1, "a", 3)), list(el(0, "A", 3)), list(el(0, "a", -3)), list(el(0, "a", 3), el(2, "a", 0)),
		list(el(0, "a", 3), el(0, "a", 3)), list(el(0, "b", 3), tx(1, ""), tx(2, "")), list(el(0, "a", 4), el(1, "a", 1), el(1, "b", 1)),
		list(el(0, "a", 3), el(math.MaxInt, "a", 0)), list(el(0, "a", 3), el(math.MinInt, "a", 0)), chain(13),
		list(el(0, "a", 3, attrs(6)...)), list(el(0, "a", 3), tx(1, strings.Repeat("x", 21))), list(el(0, "a", 3), tx(1, "x"), tx(1, strings.Repeat("x", 1<<16))),
	} {
		no, at := batten.Check(l)
		if no == api.OK {
			t.Fatalf("%v is a tree", l)
		}
		diffRefused(t, d, l, no, at)
		diffRefused(t, full, l, no, at)
	}
}

func TestDiffRoot(t *testing.T) {
	for _, root := range []api.Node{el(0, "a", 3), el(0, "a", 0), el(0, "abcdefgh", math.MaxInt)} {
		d := newDom(t, list(root, el(1, "p", 1)))
		full := newDom(t, list(root))
		for id := 2; id <= 800; id++ {
			applies(t, full, api.OK, 0, create(id, "n", 0))
		}
		for _, other := range []api.Node{el(0, "b", 3), el(0, "b", 0), el(0, "a", 1), el(0, "p", 1), el(0, "aa", 3), el(0, "abcdefgh", math.MaxInt-1), el(0, "abcdefg", math.MaxInt)} {
			diffRefused(t, d, list(other), api.ErrRoot, 0)
			diffRefused(t, d, list(other, el(1, "p", 1)), api.ErrRoot, 0)
			diffRefused(t, full, list(other), api.ErrRoot, 0)
		}
	}
}

// TestDiffMany: the document and the tree have 800 nodes together at most, loose ones counted.
func TestDiffMany(t *testing.T) {
	for _, c := range []struct{ first, loose, tree int }{
		{1, 798, 1}, {1, 797, 2}, {1, 399, 400}, {400, 0, 400}, {400, 399, 1}, {399, 101, 300}, {2, 0, 400},
	} {
		d := newDom(t, wide(c.first))
		last := c.first
		more := func(attach bool) {
			last++
			applies(t, d, api.OK, 0, create(last, "n", 0))
			if attach {
				applies(t, d, api.OK, 0, insert(last, 1, 0))
			}
		}
		for range c.loose {
			more(false)
		}
		want := below()
		for len(want) < c.tree {
			want = append(want, el(1, "p", 0))
		}
		if l := diffs(t, d, want); byKinds(l) != [6]int{c.tree - 1, c.tree - 1, c.first - 1} {
			t.Fatalf("P6: from %d nodes to %d: %v", c.first, c.tree, byKinds(l))
		}
		if c.first+c.loose+c.tree == 800 {
			more(last%2 == 0)
			diffRefused(t, d, want, api.ErrMany, 0)
			diffRefused(t, d, wide(c.tree), api.ErrMany, 0)
		}
		applies(t, d, api.OK, 0, remove(last))
		l := diffs(t, d, want)
		applies(t, d, api.OK, 0, l...)
		if !alike(d.Tree(), want) {
			t.Fatalf("P6: from %d nodes to %d: %v", c.first, c.tree, d.Tree())
		}
	}
}

// TestDiffFull: a document that is the tree already tells no patches up to 800 nodes together, and an error above.
func TestDiffFull(t *testing.T) {
	d := newDom(t, wide(400))
	if l := diffs(t, d, wide(400)); len(l) != 0 {
		t.Errorf("P6: to itself: %v", l)
	}
	applies(t, d, api.OK, 0, create(401, "n", 0))
	diffRefused(t, d, wide(400), api.ErrMany, 0)
	if l := diffs(t, d, wide(399)); len(l) != 1 {
		t.Errorf("P6: %v, want one Remove", l)
	}
	applies(t, d, api.OK, 0, insert(401, 1, 0))
	diffRefused(t, d, wide(400), api.ErrMany, 0)
	applies(t, d, api.OK, 0, remove(401))
	if l := diffs(t, d, wide(400)); len(l) != 0 {
		t.Errorf("P6: to itself: %v", l)
	}
}

// TestDiffWide: the most children there can be, from behind.
func TestDiffWide(t *testing.T) {
	var rise, fall []int
	for k := range 399 {
		rise, fall = append(rise, k+1), append(fall, 399-k)
	}
	d := newDom(t, ul(rise...))
	l := diffs(t, d, ul(fall...))
	applies(t, d, api.OK, 0, l...)
	if byKinds(l) != [6]int{0, 398} || !alike(d.Tree(), ul(fall...)) {
		t.Errorf("P6: %v", byKinds(l))
	}
}

// TestDiffNumbers: those that are created have the numbers behind the greatest that ever was.
func TestDiffNumbers(t *testing.T) {
	b := newBoth(t, ul(1, 2))
	b.do(t, create(4, "n", 0), create(5, "n", 0), remove(5), remove(3))
	b.bring(t, ul(2, 1, 3))
	if ids := b.d.IDs(); ids[2] != 2 || min(ids[1], ids[3]) != 6 || max(ids[1], ids[3]) != 7 {
		t.Errorf("P6: IDs() = %v, want 6 and 7 for the new ones", ids)
	}
}

// TestDiffOrders: all orders of six children, and two of them gone.
func TestDiffOrders(t *testing.T) {
	keys := upTo(6)
	var each func(k int)
	each = func(k int) {
		if k == len(keys) {
			newBoth(t, ul(1, 2, 3, 4, 5, 6)).bring(t, ul(keys...))
			newBoth(t, ul(keys...)).bring(t, ul(2, 4, 5, 6))
		}
		for i := k; i < len(keys); i++ {
			keys[k], keys[i] = keys[i], keys[k]
			each(k + 1)
			keys[k], keys[i] = keys[i], keys[k]
		}
	}
	each(0)
}

// allOf: every list of up to n of these nodes.
func allOf(pool []api.Node, n int) [][]api.Node {
	lists := [][]api.Node{nil}
	for from := 0; n > 0; n-- {
		to := len(lists)
		for _, l := range lists[from:to] {
			for _, more := range pool {
				lists = append(lists, append(slices.Clone(l), more))
			}
		}
		from = to
	}
	return lists
}

// TestDiffAllSmall: from every document with up to three children of these to every tree with up to three.
func TestDiffAllSmall(t *testing.T) {
	pool := list(el(1, "p", 1), el(1, "p", 2), el(1, "q", 1), el(1, "p", 0), el(1, "q", 0), tx(1, "x"), tx(1, "y"))
	lists := allOf(pool, 3)
	n := 0
	for i, from := range lists {
		for j, to := range lists {
			if no, _ := plainCheck(below(to...)); no != api.OK || (i+j)%3 != 0 {
				continue
			}
			b := newBoth(t, below())
			for id, k := range from {
				b.do(t, api.Patch{Kind: api.Create, ID: id + 2, Tag: k.Tag, Key: k.Key, Text: k.Text}, insert(id+2, 1, 0))
			}
			b.bring(t, below(to...))
			n++
		}
	}
	if n < 10000 {
		t.Errorf("only %d: too few to tell much", n)
	}
}

// anyTree: a small one whose nodes are often those of another.
func anyTree(r *rand.Rand) []api.Node {
	pick := func(l ...string) string { return l[r.Intn(len(l))] }
	l := below()
	for range r.Intn(14) {
		depth := 1 + r.Intn(min(4, l[len(l)-1].Depth+1))
		n := tx(depth, pick("", "x", "y"))
		if r.Intn(4) > 0 {
			n = el(depth, pick("p", "q"), r.Intn(5))
			for _, name := range []string{"a", "b", "c", "d", "e", "f", "g"} {
				if r.Intn(3) == 0 && len(n.Attrs) < 5 {
					n.Attrs = append(n.Attrs, at(name, pick("", "v", "w")))
				}
			}
		}
		if no, _ := plainCheck(append(slices.Clone(l), n)); no == api.OK {
			l = append(l, n)
		}
	}
	return l
}

// TestDiffDrawn: documents that many patches made, to trees of any form.
func TestDiffDrawn(t *testing.T) {
	r := rand.New(rand.NewSource(6))
	var kinds [6]int
	for range 250 {
		b := both{small(t), smallModel()}
		for range 12 {
			for range r.Intn(12) {
				b.do(t, anyPatch(r, b.m.last))
			}
			for i, n := range byKinds(b.bring(t, anyTree(r))) {
				kinds[i] += n
			}
		}
	}
	for i, n := range kinds {
		if n < 300 {
			t.Errorf("kind %d: %d: too few to tell much", i+1, n)
		}
	}
}

// TestDiffWritesNothing: neither the tree nor its spare room (P2).
func TestDiffWritesNothing(t *testing.T) {
	build := func() []api.Node {
		l := append(make([]api.Node, 0, 8), el(0, "div", 0), el(1, "p", 2), el(1, "n", 0), tx(2, "x"), el(1, "p", 1), el(5, "spare", -1), tx(6, "room"))
		l[1].Attrs = append(make([]api.Attr, 0, 4), at("b", "1"), at("c", "2"), at("spare", "s"), at("room", "r"))[:2]
		return l[:5]
	}
	l, want := build(), build()
	d := small(t)
	applies(t, d, api.OK, 0, diffs(t, d, l)...)
	applies(t, d, api.OK, 0, set(2, "a", "v"), unset(5, "b"), remove(2))
	if !reflect.DeepEqual(l[:8], want[:8]) || !reflect.DeepEqual(l[1].Attrs[:4], want[1].Attrs[:4]) {
		t.Errorf("P2: the tree was written into: %v, want %v", l[:8], want[:8])
	}
}

// TestDiffAnswersAreNew: writing into the tree or into an answer changes no answer (P2).
func TestDiffAnswersAreNew(t *testing.T) {
	build := func() []api.Node {
		return below(el(1, "p", 2, at("a", "w"), at("z", "v")), el(1, "n", 0, attrs(2)...), tx(2, "x"), el(1, "p", 1), tx(1, "w"))
	}
	d, l := small(t), build()
	kept, over := diffs(t, d, l), diffs(t, d, l)
	want := slices.Clone(kept)
	overwrite(l)
	over = over[:cap(over)]
	for i := range over {
		over[i] = api.Patch{Kind: 77}
	}
	if !slices.Equal(kept, want) || !slices.Equal(diffs(t, d, build()), want) {
		t.Errorf("P2: the patches were changed: %+v, want %+v", kept, want)
	}
	applies(t, d, api.OK, 0, kept...)
	clear(kept[:cap(kept)])
	if got := d.Tree(); !alike(got, build()) {
		t.Errorf("P2: Tree() = %v, want %v", got, build())
	}
}

// TestDiffTexts: the bytes of a text that was handed in are not those of the answer (P2).
func TestDiffTexts(t *testing.T) {
	b := []byte("pabxyz")
	piece := func(i, n int) string { return unsafe.String(&b[i], n) }
	d := newDom(t, below(tx(1, "t")))
	l := diffs(t, d, below(tx(1, piece(3, 1)), el(1, piece(0, 1), 0, at(piece(1, 1), piece(4, 1))), tx(2, piece(5, 1))))
	copy(b, "......")
	applies(t, d, api.OK, 0, l...)
	shows(t, d, below(tx(1, "x"), el(1, "p", 0, at("a", "y")), tx(2, "z")), upTo(4), 0)
}

// TestDiffsApart: a document's patches hang on that document alone (P2).
func TestDiffsApart(t *testing.T) {
	a, b := small(t), small(t)
	want := diffs(t, a, below(tx(1, "new")))
	applies(t, b, api.OK, 0, create(10, "n", 0), remove(2))
	diffs(t, b, below(el(1, "n", 0)))
	if l := diffs(t, a, below(tx(1, "new"))); !slices.Equal(l, want) {
		t.Errorf("P2: %+v, want %+v", l, want)
	}
}
