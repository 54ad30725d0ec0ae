package batten_test

import (
	"math"
	"math/rand"
	"reflect"
	"strings"
	"testing"

	"batten/api"
	"batten/batten"
)

// applies: what Apply tells.
func applies(t *testing.T, d *batten.Dom, no api.Errno, at int, l ...api.Patch) {
	t.Helper()
	if gotNo, gotAt := d.Apply(l...); gotNo != no || gotAt != at {
		t.Fatalf("P5: Apply(%+v) = %d, %d, want %d, %d", l, gotNo, gotAt, no, at)
	}
}

func create(id int, tag string, key int) api.Patch {
	return api.Patch{Kind: api.Create, ID: id, Tag: tag, Key: key}
}

func createText(id int, text string) api.Patch {
	return api.Patch{Kind: api.Create, ID: id, Text: text}
}

func insert(id, parent, before int) api.Patch {
	return api.Patch{Kind: api.Insert, ID: id, Parent: parent, Before: before}
}

func remove(id int) api.Patch { return api.Patch{Kind: api.Remove, ID: id} }

func set(id int, name, text string) api.Patch {
	return api.Patch{Kind: api.Set, ID: id, Name: name, Text: text}
}

func unset(id int, name string) api.Patch {
	return api.Patch{Kind: api.Unset, ID: id, Name: name}
}

func write(id int, text string) api.Patch {
	return api.Patch{Kind: api.Write, ID: id, Text: text}
}

// small: 1 div (2 p key 1 (3 q (4 "x")), 5 p key 2 with a to e, 6 "y"), and loose 7 n (8 m), 9 "z".
func small(t *testing.T) *batten.Dom {
	t.Helper()
	d := newDom(t, smallTree())
	applies(t, d, api.OK, 0, create(7, "n", 0), create(8, "m", 4), createText(9, "z"), insert(8, 7, 0))
	return d
}

func smallTree() []api.Node {
	return below(el(1, "p", 1), el(2, "q", 0), tx(3, "x"), el(1, "p", 2, attrs(5)...), tx(1, "y"))
}

// patchCase: a patch, and what is to be seen of small behind it.
type patchCase struct {
	p     api.Patch
	l     []api.Node
	ids   []int
	loose int
}

func TestApplyOrdinary(t *testing.T) {
	for _, c := range []patchCase{
		{create(10, "abcdefgh", math.MaxInt), smallTree(), upTo(6), 4},
		{create(10, "a", 1), smallTree(), upTo(6), 4},
		{createText(10, strings.Repeat("x", 20)), smallTree(), upTo(6), 4},
		{createText(10, ""), smallTree(), upTo(6), 4},
		{remove(2), below(el(1, "p", 2, attrs(5)...), tx(1, "y")), []int{1, 5, 6}, 3},
		{remove(4), below(el(1, "p", 1), el(2, "q", 0), el(1, "p", 2, attrs(5)...), tx(1, "y")), []int{1, 2, 3, 5, 6}, 3},
		{remove(7), smallTree(), upTo(6), 1},
		{remove(8), smallTree(), upTo(6), 2},
		{remove(9), smallTree(), upTo(6), 2},
		{set(1, "abcdefgh", strings.Repeat("\xff", 20)), append(list(el(0, "div", 0, at("abcdefgh", strings.Repeat("\xff", 20)))), smallTree()[1:]...), upTo(6), 3},
		{set(1, "a", ""), append(list(el(0, "div", 0, at("a", ""))), smallTree()[1:]...), upTo(6), 3},
		{set(7, "a", "v"), smallTree(), upTo(6), 3},
		{set(5, "a", "v"), smallTree(), upTo(6), 3},
		{write(4, "new"), below(el(1, "p", 1), el(2, "q", 0), tx(3, "new"), el(1, "p", 2, attrs(5)...), tx(1, "y")), upTo(6), 3},
		{write(6, ""), below(el(1, "p", 1), el(2, "q", 0), tx(3, "x"), el(1, "p", 2, attrs(5)...), tx(1, "")), upTo(6), 3},
		{write(6, "y"), smallTree(), upTo(6), 3},
		{write(9, strings.Repeat("x", 20)), smallTree(), upTo(6), 3},
		{unset(5, "a"), below(el(1, "p", 1), el(2, "q", 0), tx(3, "x"), el(1, "p", 2, attrs(5)[1:]...), tx(1, "y")), upTo(6), 3},
		{unset(5, "e"), below(el(1, "p", 1), el(2, "q", 0), tx(3, "x"), el(1, "p", 2, attrs(4)...), tx(1, "y")), upTo(6), 3},
		{set(5, "c", "w"), below(el(1, "p", 1), el(2, "q", 0), tx(3, "x"), el(1, "p", 2, at("a", "v"), at("b", "v"), at("c", "w"), at("d", "v"), at("e", "v")), tx(1, "y")), upTo(6), 3},
	} {
		d := small(t)
		applies(t, d, api.OK, 0, c.p)
		shows(t, d, c.l, c.ids, c.loose)
	}
}

// TestInsert: from wherever a node stands to wherever it may.
func TestInsert(t *testing.T) {
	p2, q3, p5 := el(1, "p", 1), el(2, "q", 0), el(1, "p", 2, attrs(5)...)
	for _, c := range []patchCase{
		{insert(2, 1, 0), below(p5, tx(1, "y"), p2, q3, tx(3, "x")), []int{1, 5, 6, 2, 3, 4}, 3},
		{insert(2, 1, 6), below(p5, p2, q3, tx(3, "x"), tx(1, "y")), []int{1, 5, 2, 3, 4, 6}, 3},
		{insert(2, 1, 5), smallTree(), upTo(6), 3},
		{insert(6, 1, 0), smallTree(), upTo(6), 3},
		{insert(6, 1, 2), below(tx(1, "y"), p2, q3, tx(3, "x"), p5), []int{1, 6, 2, 3, 4, 5}, 3},
		{insert(6, 1, 5), below(p2, q3, tx(3, "x"), tx(1, "y"), p5), []int{1, 2, 3, 4, 6, 5}, 3},
		{insert(4, 1, 0), below(p2, q3, p5, tx(1, "y"), tx(1, "x")), []int{1, 2, 3, 5, 6, 4}, 3},
		{insert(4, 1, 2), below(tx(1, "x"), p2, q3, p5, tx(1, "y")), []int{1, 4, 2, 3, 5, 6}, 3},
		{insert(6, 3, 4), below(p2, q3, tx(3, "y"), tx(3, "x"), p5), []int{1, 2, 3, 6, 4, 5}, 3},
		{insert(6, 3, 0), below(p2, q3, tx(3, "x"), tx(3, "y"), p5), []int{1, 2, 3, 4, 6, 5}, 3},
		{insert(3, 2, 0), smallTree(), upTo(6), 3},
		{insert(2, 5, 0), below(p5, el(2, "p", 1), el(3, "q", 0), tx(4, "x"), tx(1, "y")), []int{1, 5, 2, 3, 4, 6}, 3},
		{insert(7, 1, 2), below(el(1, "n", 0), el(2, "m", 4), p2, q3, tx(3, "x"), p5, tx(1, "y")), []int{1, 7, 8, 2, 3, 4, 5, 6}, 1},
		{insert(8, 3, 4), below(p2, q3, el(3, "m", 4), tx(3, "x"), p5, tx(1, "y")), []int{1, 2, 3, 8, 4, 5, 6}, 2},
		{insert(9, 8, 0), smallTree(), upTo(6), 3},
		{insert(9, 7, 8), smallTree(), upTo(6), 3},
		{insert(3, 8, 0), below(p2, p5, tx(1, "y")), []int{1, 2, 5, 6}, 5},
	} {
		d := small(t)
		applies(t, d, api.OK, 0, c.p)
		shows(t, d, c.l, c.ids, c.loose)
	}
}

// refused: small stays as it is; the patch ahead is done, the one behind not.
func refused(t *testing.T, p api.Patch) {
	t.Helper()
	d := small(t)
	applies(t, d, api.ErrPatch, 1, write(6, "ahead"), p, write(4, "behind"))
	want := smallTree()
	want[5].Text = "ahead"
	shows(t, d, want, upTo(6), 3)
	applies(t, d, api.ErrPatch, 0, create(9, "n", 0))
	applies(t, d, api.OK, 0, create(10, "n", 0), insert(7, 1, 2), insert(9, 1, 0))
	want = append(below(el(1, "n", 0), el(2, "m", 4)), append(want[1:], tx(1, "z"))...)
	shows(t, d, want, []int{1, 7, 8, 2, 3, 4, 5, 6, 9}, 1)
}

// noNodes: numbers that are none of a node of small.
func noNodes() []int { return []int{math.MinInt, -1, 0, 10, 11, 800, 801, math.MaxInt} }

func TestRefusedCreate(t *testing.T) {
	for _, id := range append(noNodes(), upTo(9)...) {
		if id != 10 {
			refused(t, create(id, "n", 0))
			refused(t, createText(id, "x"))
		}
	}
	for _, tag := range []string{"N", "a1", "abcdefghi", " ", "ä", "a\x00", strings.Repeat("n", 1<<16)} {
		refused(t, create(10, tag, 0))
	}
	for _, key := range []int{-1, math.MinInt} {
		refused(t, create(10, "n", key))
		refused(t, create(10, "", key))
	}
	refused(t, create(10, "", 1))
	refused(t, createText(10, strings.Repeat("x", 21)))
	refused(t, createText(10, strings.Repeat("ä", 11)))
	refused(t, api.Patch{Kind: api.Create, ID: 10, Tag: "n", Text: "x"})
	refused(t, api.Patch{Kind: api.Create, ID: 10, Key: 1, Text: "x"})
}

func TestRefusedInsert(t *testing.T) {
	for _, no := range noNodes() {
		refused(t, insert(no, 1, 0))
		refused(t, insert(2, no, 0))
		if no != 0 {
			refused(t, insert(2, 1, no))
			refused(t, insert(9, 1, no))
		}
	}
	for _, to := range upTo(9) {
		refused(t, insert(1, to, 0))
		refused(t, insert(to, to, 0))
	}
	for _, text := range []int{4, 6, 9} {
		refused(t, insert(5, text, 0))
		refused(t, insert(7, text, 0))
	}
	refused(t, insert(2, 3, 0))
	refused(t, insert(2, 3, 4))
	refused(t, insert(7, 8, 0))
	refused(t, insert(2, 1, 2))
	refused(t, insert(8, 7, 8))
	for _, before := range []int{1, 3, 4, 7, 8, 9} {
		refused(t, insert(5, 1, before))
	}
	for _, before := range []int{1, 2, 3, 5, 6, 9} {
		refused(t, insert(9, 3, before))
	}
	refused(t, insert(9, 7, 7))
	refused(t, insert(5, 7, 6))
}

func TestRefusedOthers(t *testing.T) {
	for _, no := range noNodes() {
		for _, p := range []api.Patch{remove(no), set(no, "a", ""), unset(no, "a"), write(no, "x")} {
			refused(t, p)
		}
	}
	refused(t, remove(1))
	for _, text := range []int{4, 6, 9} {
		refused(t, set(text, "a", "x"))
		refused(t, unset(text, "a"))
		refused(t, unset(text, ""))
	}
	for _, element := range []int{1, 2, 3, 5, 7, 8} {
		refused(t, write(element, "x"))
		refused(t, write(element, ""))
		refused(t, unset(element, "f"))
		refused(t, unset(element, ""))
		refused(t, unset(element, "A"))
	}
	for _, name := range []string{"", "A", "a1", "abcdefghi", "ä", " a", strings.Repeat("a", 1<<16)} {
		refused(t, set(2, name, "x"))
		refused(t, set(7, name, ""))
	}
	for _, text := range []string{strings.Repeat("x", 21), strings.Repeat("€", 7), strings.Repeat("x", 1<<16)} {
		refused(t, set(2, "a", text))
		refused(t, set(5, "a", text))
		refused(t, write(6, text))
		refused(t, write(9, text))
	}
	refused(t, set(5, "f", ""))
	refused(t, set(5, "aa", "v"))
	refused(t, unset(2, "a"))
}

func TestRefusedKinds(t *testing.T) {
	for _, kind := range []int{math.MinInt, -1, 0, 7, 8, math.MaxInt} {
		refused(t, api.Patch{Kind: kind})
		for _, p := range []api.Patch{create(10, "n", 0), insert(2, 1, 0), remove(2), set(2, "a", ""), unset(5, "a"), write(6, "")} {
			p.Kind = kind
			refused(t, p)
		}
	}
}

// TestRefusedSpare: patches that can be done, but for one thing that they do not need.
func TestRefusedSpare(t *testing.T) {
	fields := []string{"Parent", "Before", "Key", "Tag", "Name", "Text"}
	needs := map[int]string{api.Create: "Tag Key Text", api.Insert: "Parent Before", api.Set: "Name Text", api.Unset: "Name", api.Write: "Text"}
	for _, p := range []api.Patch{create(10, "n", 1), create(10, "n", 0), createText(10, "x"), createText(10, ""), insert(2, 1, 6), insert(9, 3, 0), remove(2), remove(9), set(2, "a", "b"), set(5, "a", ""), unset(5, "b"), write(6, "new"), write(9, "")} {
		applies(t, small(t), api.OK, 0, p)
		for _, f := range fields {
			if strings.Contains(needs[p.Kind], f) {
				continue
			}
			for _, v := range []any{1, 2, -1, 10, math.MinInt, "a", "p", "x", "X", " "} {
				with := p
				to := reflect.ValueOf(&with).Elem().FieldByName(f)
				if to.Type() == reflect.TypeOf(v) {
					to.Set(reflect.ValueOf(v))
					refused(t, with)
				}
			}
		}
	}
}

func TestApplyNothing(t *testing.T) {
	d := small(t)
	applies(t, d, api.OK, 0)
	applies(t, d, api.OK, 0, []api.Patch{}...)
	shows(t, d, smallTree(), upTo(6), 3)
}

// TestApplyTellsTheFirst: each place, and more that can not be done behind it.
func TestApplyTellsTheFirst(t *testing.T) {
	good := []api.Patch{create(10, "n", 0), insert(10, 1, 5), createText(11, "new"), insert(11, 10, 0), set(10, "a", "b"), write(11, "more"), unset(10, "a"), remove(2), insert(7, 10, 11), remove(6)}
	for i := range good {
		for _, wrong := range []api.Patch{{}, remove(1), create(10+40, "n", 0), insert(1, 1, 1), unset(1, "a")} {
			d, m := small(t), smallModel()
			l := append(append(append([]api.Patch(nil), good[:i]...), wrong, api.Patch{}), good[i:]...)
			m.apply(good[:i]...)
			applies(t, d, api.ErrPatch, i, l...)
			want, ids := m.seen(1, 0)
			shows(t, d, want, ids, len(m.rows)-len(ids))
			applies(t, d, api.OK, 0, good[i:]...)
			m.apply(good[i:]...)
			want, ids = m.seen(1, 0)
			shows(t, d, want, ids, len(m.rows)-len(ids))
		}
	}
}

// smallModel: the plain model of small.
func smallModel() *model {
	m := newModel(smallTree())
	m.apply(create(7, "n", 0), create(8, "m", 4), createText(9, "z"), insert(8, 7, 0))
	return m
}

// TestNumbersNeverAgain: the next number is one more than the greatest that ever was.
func TestNumbersNeverAgain(t *testing.T) {
	d := newDom(t, below(el(1, "p", 0), el(2, "p", 0)))
	applies(t, d, api.OK, 0, remove(2))
	applies(t, d, api.ErrPatch, 0, create(2, "n", 0))
	applies(t, d, api.ErrPatch, 0, create(3, "n", 0))
	applies(t, d, api.OK, 0, create(4, "n", 0), remove(4))
	applies(t, d, api.ErrPatch, 0, create(4, "n", 0))
	applies(t, d, api.OK, 0, create(5, "n", 0), insert(5, 1, 0))
	shows(t, d, below(el(1, "n", 0)), []int{1, 5}, 0)
	for _, gone := range []int{2, 3, 4} {
		for _, p := range []api.Patch{insert(gone, 1, 0), insert(5, gone, 0), insert(5, 1, gone), remove(gone), set(gone, "a", ""), write(gone, "")} {
			applies(t, d, api.ErrPatch, 0, p)
		}
	}
	for id := 6; id < 3000; id++ {
		applies(t, d, api.OK, 0, create(id, "n", 0), remove(id))
	}
	shows(t, d, below(el(1, "n", 0)), []int{1, 5}, 0)
}

// TestMostNodes: 800 in all, loose ones counted; what is gone makes room.
func TestMostNodes(t *testing.T) {
	d := newDom(t, wide(400))
	for id := 401; id <= 799; id++ {
		applies(t, d, api.OK, 0, create(id, "n", 0))
	}
	applies(t, d, api.OK, 0, createText(800, "last"))
	applies(t, d, api.ErrPatch, 0, create(801, "n", 0))
	applies(t, d, api.ErrPatch, 0, createText(801, ""))
	shows(t, d, wide(400), upTo(400), 400)
	applies(t, d, api.OK, 0, insert(401, 1, 2), insert(402, 401, 0), insert(800, 402, 0))
	applies(t, d, api.ErrPatch, 0, create(801, "n", 0))
	applies(t, d, api.OK, 0, remove(401), create(801, "n", 0), create(802, "n", 0), create(803, "n", 0))
	applies(t, d, api.ErrPatch, 0, create(804, "n", 0))
	applies(t, d, api.OK, 0, remove(803), createText(804, ""))
	applies(t, d, api.ErrPatch, 0, create(805, "n", 0))
	shows(t, d, wide(400), upTo(400), 400)
}

// TestMostAttrs: 5, of elements that are given and of those that are created.
func TestMostAttrs(t *testing.T) {
	d := newDom(t, list(el(0, "a", 0, attrs(4)...)))
	applies(t, d, api.OK, 0, create(2, "a", 0), insert(2, 1, 0))
	applies(t, d, api.OK, 0, set(1, "e", "v"), set(2, "e", "v"), set(2, "c", "v"), set(2, "a", "v"), set(2, "d", "v"), set(2, "b", "v"))
	shows(t, d, list(el(0, "a", 0, attrs(5)...), el(1, "a", 0, attrs(5)...)), upTo(2), 0)
	for id := 1; id <= 2; id++ {
		applies(t, d, api.ErrPatch, 0, set(id, "f", ""))
		applies(t, d, api.ErrPatch, 0, set(id, "aa", ""))
		applies(t, d, api.OK, 0, set(id, "a", "w"), unset(id, "c"), set(id, "f", "v"), unset(id, "a"), set(id, "aa", "v"))
		applies(t, d, api.ErrPatch, 0, set(id, "c", "v"))
	}
	l := attrs(6)
	left := []api.Attr{at("aa", "v"), l[1], l[3], l[4], l[5]}
	shows(t, d, list(el(0, "a", 0, left...), el(1, "a", 0, left...)), upTo(2), 0)
	for _, a := range left {
		applies(t, d, api.OK, 0, unset(2, a.Name))
		applies(t, d, api.ErrPatch, 0, unset(2, a.Name))
	}
	shows(t, d, list(el(0, "a", 0, left...), el(1, "a", 0)), upTo(2), 0)
}

// TestApplyWritesNothing: neither the patches nor their spare room (P2).
func TestApplyWritesNothing(t *testing.T) {
	build := func() []api.Patch {
		return append(make([]api.Patch, 0, 8), create(10, "n", 3), insert(10, 1, 5), set(10, "a", "b"), remove(1), write(6, "spare"), remove(2))
	}
	l, want := build(), build()
	d := small(t)
	applies(t, d, api.ErrPatch, 3, l[:4]...)
	if !reflect.DeepEqual(l[:8], want[:8]) {
		t.Errorf("P2: the patches were written into: %+v, want %+v", l[:8], want[:8])
	}
	clear(l)
	q := append(below(el(1, "p", 1), el(2, "q", 0), tx(3, "x"), el(1, "n", 3, at("a", "b"))), smallTree()[4:]...)
	shows(t, d, q, []int{1, 2, 3, 4, 10, 5, 6}, 3)
}

// TestDomsApart: patches of one document do not show in another (P2).
func TestDomsApart(t *testing.T) {
	a, b := small(t), small(t)
	applies(t, a, api.OK, 0, remove(2), set(5, "a", "w"), write(6, "w"), create(10, "n", 0), insert(10, 1, 0))
	shows(t, b, smallTree(), upTo(6), 3)
	applies(t, b, api.OK, 0, create(10, "m", 0), insert(10, 3, 4))
	five := attrs(5)
	five[0].Value = "w"
	shows(t, a, below(el(1, "p", 2, five...), tx(1, "w"), el(1, "n", 0)), []int{1, 5, 6, 10}, 3)
}

// anyPatch: one that can often be done, and often not.
func anyPatch(r *rand.Rand, last int) api.Patch {
	pick := func(l ...string) string { return l[r.Intn(len(l))] }
	node := func() int {
		if r.Intn(12) == 0 {
			return r.Intn(4) - 1 + last
		}
		return max(1, last-r.Intn(20))*r.Intn(2) + 1 + r.Intn(3)
	}
	p := api.Patch{Kind: 1 + r.Intn(6), ID: node()}
	switch p.Kind {
	case api.Create:
		p.ID = last + 1
		p.Tag = pick("p", "q", "")
		if p.Tag == "" {
			p.Text = pick("", "x", "y")
		} else {
			p.Key = r.Intn(3)
		}
	case api.Insert:
		p.Parent, p.Before = node(), node()*r.Intn(2)
	case api.Remove:
		if r.Intn(4) > 0 {
			p = api.Patch{Kind: api.Insert, ID: p.ID, Parent: node()}
		}
	case api.Set:
		p.Name, p.Text = pick("a", "b", "c", "d", "e", "f", "g"), pick("", "v", "w")
	case api.Unset:
		p.Name = pick("a", "b", "c", "d", "e", "f", "g")
	case api.Write:
		p.Text = pick("", "x", "y", "z")
	}
	if r.Intn(40) == 0 {
		p.Key++
	}
	if r.Intn(40) == 0 {
		p.Text = pick("x", strings.Repeat("x", 21))
	}
	return p
}

// TestApplyAsPlainModel: long rows of patches, held against a plain reading of the document.
func TestApplyAsPlainModel(t *testing.T) {
	r := rand.New(rand.NewSource(5))
	done, not := map[int]int{}, map[int]int{}
	for range 150 {
		d, m := small(t), smallModel()
		for range 60 {
			var l []api.Patch
			for range r.Intn(4) {
				l = append(l, anyPatch(r, m.last+len(l)*r.Intn(2)))
			}
			no, at := m.apply(l...)
			applies(t, d, no, at, l...)
			want, ids := m.seen(1, 0)
			shows(t, d, want, ids, len(m.rows)-len(ids))
			for i, p := range l {
				if no == api.OK || i < at {
					done[p.Kind]++
				} else if i == at {
					not[p.Kind]++
				}
			}
		}
	}
	for kind := api.Create; kind <= api.Write; kind++ {
		if done[kind] < 50 || not[kind] < 20 {
			t.Errorf("kind %d: %d done, %d not: too few to tell much", kind, done[kind], not[kind])
		}
	}
}
