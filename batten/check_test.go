package batten_test

import (
	"math"
	"reflect"
	"strings"
	"testing"

	"batten/api"
	"batten/batten"
)

// el, tx: an element, a text node.
func el(depth int, tag string, key int, attrs ...api.Attr) api.Node {
	return api.Node{Depth: depth, Tag: tag, Key: key, Attrs: attrs}
}

func tx(depth int, text string) api.Node { return api.Node{Depth: depth, Text: text} }

func at(name, value string) api.Attr { return api.Attr{Name: name, Value: value} }

// list: nodes as a list of their own.
func list(l ...api.Node) []api.Node { return l }

// below: a root with these nodes behind it.
func below(l ...api.Node) []api.Node { return append(list(el(0, "div", 0)), l...) }

// chain: elements within one another, at the depths 0 to n-1.
func chain(n int) []api.Node {
	var l []api.Node
	for i := range n {
		l = append(l, el(i, "a", 0))
	}
	return l
}

// wide: a root and n-1 text nodes.
func wide(n int) []api.Node {
	l := below()
	for len(l) < n {
		l = append(l, tx(1, ""))
	}
	return l
}

// attrs: n attributes a, b, c and so on.
func attrs(n int) []api.Attr {
	var l []api.Attr
	for i := range n {
		l = append(l, at(string(rune('a'+i)), "v"))
	}
	return l
}

type checkCase struct {
	name string
	l    []api.Node
	no   api.Errno
	at   int
}

func runChecks(t *testing.T, cases []checkCase) {
	t.Helper()
	for _, c := range cases {
		if no, at := batten.Check(c.l); no != c.no || at != c.at {
			t.Errorf("P3: %q: Check = %d, %d, want %d, %d", c.name, no, at, c.no, c.at)
		}
	}
}

func TestCheckOrdinary(t *testing.T) {
	runChecks(t, []checkCase{
		{"one element", list(el(0, "div", 0)), api.OK, 0},
		{"root with key and attribute", list(el(0, "div", 9, at("a", "x"))), api.OK, 0},
		{"texts side by side", below(tx(1, "x"), tx(1, "x")), api.OK, 0},
		{"mixed children", below(tx(1, "x"), el(1, "p", 0), tx(2, "y"), el(1, "p", 1), el(2, "q", 1, at("b", "")), tx(1, "z")), api.OK, 0},
		{"back from deep to 1", append(chain(12), el(1, "p", 0), tx(2, "x")), api.OK, 0},
	})
}

func TestCheckHowMany(t *testing.T) {
	tooMany := wide(401)
	tooMany[0] = tx(-1, "")
	runChecks(t, []checkCase{
		{"nil", nil, api.ErrMany, 0},
		{"empty, not nil", list(), api.ErrMany, 0},
		{"empty with room", make([]api.Node, 0, 8), api.ErrMany, 0},
		{"1", wide(1), api.OK, 0},
		{"399", wide(399), api.OK, 0},
		{"400", wide(400), api.OK, 0},
		{"401", wide(401), api.ErrMany, 0},
		{"401, the first one wrong too", tooMany, api.ErrMany, 0},
		{"100000 empty ones", make([]api.Node, 100000), api.ErrMany, 0},
		{"400, the last one wrong", append(wide(399), tx(0, "")), api.ErrTree, 399},
	})
}

func TestCheckDepth(t *testing.T) {
	for _, d := range []int{math.MinInt, math.MinInt + 1, -1, 1, 2, 11, 12, math.MaxInt} {
		runChecks(t, []checkCase{{"depth of the first", list(el(d, "a", 0)), api.ErrTree, 0}})
	}
	for _, d := range []int{math.MinInt, -1, 0, 2, 3, 11, 12, math.MaxInt - 1, math.MaxInt} {
		runChecks(t, []checkCase{
			{"depth of an element behind the root", below(el(d, "a", 0)), api.ErrTree, 1},
			{"depth of a text behind the root", below(tx(d, "")), api.ErrTree, 1},
		})
	}
	runChecks(t, []checkCase{
		{"12 within one another", chain(12), api.OK, 0},
		{"13 within one another", chain(13), api.ErrTree, 12},
		{"a text at depth 11", append(chain(11), tx(11, "x")), api.OK, 0},
		{"a text at depth 12", append(chain(12), tx(12, "x")), api.ErrTree, 12},
		{"two at depth 11", append(chain(12), el(11, "a", 0)), api.OK, 0},
		{"two more after a fall", append(chain(6), el(2, "a", 0), el(4, "a", 0)), api.ErrTree, 7},
		{"a second root behind a fall", append(chain(6), el(0, "a", 0)), api.ErrTree, 6},
	})
}

func TestCheckParent(t *testing.T) {
	runChecks(t, []checkCase{
		{"the first is a text", list(tx(0, "x")), api.ErrTree, 0},
		{"the first is an empty text", list(tx(0, "")), api.ErrTree, 0},
		{"a text in a text", below(tx(1, "x"), tx(2, "y")), api.ErrTree, 2},
		{"an element in a text", below(tx(1, "x"), el(2, "p", 0)), api.ErrTree, 2},
		{"an element in an empty text", below(tx(1, ""), el(2, "p", 0)), api.ErrTree, 2},
		{"an element in one behind a text", below(tx(1, "x"), el(1, "p", 0), el(2, "p", 0)), api.OK, 0},
		{"the last one ahead is the parent", below(el(1, "p", 0), tx(2, ""), tx(1, ""), tx(2, "")), api.ErrTree, 4},
	})
}

func TestCheckNames(t *testing.T) {
	for b := range 256 {
		want := api.ErrTree
		if b >= 'a' && b <= 'z' {
			want = api.OK
		}
		one := string([]byte{byte(b)})
		for _, name := range []string{one, "a" + one, one + "z", "abc" + one + "wxyz"} {
			runChecks(t, []checkCase{
				{"tag " + name, list(el(0, name, 0)), want, 0},
				{"attribute " + name, list(el(0, "p", 0, at(name, ""))), want, 0},
			})
		}
	}
	for n := range 12 {
		want := api.ErrTree
		if n >= 1 && n <= 8 {
			want = api.OK
		}
		name := strings.Repeat("z", n)
		runChecks(t, []checkCase{
			{"tag " + name, list(el(0, name, 0)), want, 0},
			{"attribute " + name, list(el(0, "p", 0, at(name, ""))), want, 0},
		})
	}
}

func TestCheckTexts(t *testing.T) {
	fit := []string{"", "x", strings.Repeat("x", 20), strings.Repeat("ä", 10), strings.Repeat("\xff", 20), "\x00", "<&\n"}
	for _, s := range fit {
		runChecks(t, []checkCase{
			{"text", below(tx(1, s)), api.OK, 0},
			{"value", list(el(0, "p", 0, at("a", s))), api.OK, 0},
		})
	}
	long := []string{strings.Repeat("x", 21), strings.Repeat("ä", 11), strings.Repeat("€", 7), strings.Repeat("\xff", 21), strings.Repeat("x", 1<<20)}
	for _, s := range long {
		runChecks(t, []checkCase{
			{"long text", below(tx(1, s)), api.ErrTree, 1},
			{"long value", list(el(0, "p", 0, at("a", s))), api.ErrTree, 0},
			{"long value behind", list(el(0, "p", 0, at("a", ""), at("b", s))), api.ErrTree, 0},
		})
	}
}

func TestCheckKinds(t *testing.T) {
	runChecks(t, []checkCase{
		{"an element with a text", below(api.Node{Depth: 1, Tag: "p", Text: "x"}), api.ErrTree, 1},
		{"the first with a text", list(api.Node{Tag: "p", Text: "x"}), api.ErrTree, 0},
		{"a text with a key", below(api.Node{Depth: 1, Key: 1, Text: "x"}), api.ErrTree, 1},
		{"a text with a key below 0", below(api.Node{Depth: 1, Key: -1, Text: "x"}), api.ErrTree, 1},
		{"a text with an attribute", below(api.Node{Depth: 1, Text: "x", Attrs: attrs(1)}), api.ErrTree, 1},
		{"a text with an empty list", below(api.Node{Depth: 1, Text: "x", Attrs: []api.Attr{}}), api.OK, 0},
		{"an element with an empty list", below(api.Node{Depth: 1, Tag: "p", Attrs: []api.Attr{}}), api.OK, 0},
	})
}

func TestCheckAttrs(t *testing.T) {
	for n := range 9 {
		want := api.OK
		if n > 5 {
			want = api.ErrTree
		}
		runChecks(t, []checkCase{{"how many", list(el(0, "p", 0, attrs(n)...)), want, 0}})
	}
	runChecks(t, []checkCase{
		{"a longer name behind its beginning", list(el(0, "p", 0, at("a", ""), at("aa", ""), at("ab", ""), at("b", ""))), api.OK, 0},
		{"values need not rise", list(el(0, "p", 0, at("a", "9"), at("b", "1"))), api.OK, 0},
		{"twice the same", list(el(0, "p", 0, at("a", "1"), at("a", "2"))), api.ErrTree, 0},
		{"falling", list(el(0, "p", 0, at("b", ""), at("a", ""))), api.ErrTree, 0},
		{"falling by length", list(el(0, "p", 0, at("aa", ""), at("a", ""))), api.ErrTree, 0},
		{"a shorter name that is above", list(el(0, "p", 0, at("b", ""), at("aa", ""))), api.ErrTree, 0},
		{"the last two alike", list(el(0, "p", 0, at("a", ""), at("b", ""), at("c", ""), at("d", ""), at("d", ""))), api.ErrTree, 0},
		{"an empty name", list(el(0, "p", 0, at("", ""))), api.ErrTree, 0},
		{"a wrong name behind a good one", below(el(1, "p", 0, at("a", ""), at("b1", ""))), api.ErrTree, 1},
		{"100000 of them", list(el(0, "p", 0, make([]api.Attr, 100000)...)), api.ErrTree, 0},
	})
}

func TestCheckKeys(t *testing.T) {
	for _, k := range []int{-1, -2, math.MinInt} {
		runChecks(t, []checkCase{
			{"key below 0", below(el(1, "p", k)), api.ErrTree, 1},
			{"key of the first below 0", list(el(0, "p", k)), api.ErrTree, 0},
		})
	}
	runChecks(t, []checkCase{
		{"the greatest key", below(el(1, "p", math.MaxInt), el(1, "p", math.MaxInt-1)), api.OK, 0},
		{"the greatest key twice", below(el(1, "p", math.MaxInt), el(1, "p", math.MaxInt)), api.ErrTree, 2},
		{"no keys", below(el(1, "p", 0), el(1, "p", 0), el(1, "p", 0)), api.OK, 0},
		{"the same tag", below(el(1, "p", 1), el(1, "p", 1)), api.ErrTree, 2},
		{"another tag", below(el(1, "p", 1), el(1, "q", 1)), api.ErrTree, 2},
		{"others between", below(el(1, "p", 1), tx(1, ""), el(1, "p", 2), el(2, "p", 3), el(3, "p", 4), el(1, "p", 1)), api.ErrTree, 6},
		{"as the parent", list(el(0, "p", 1), el(1, "p", 1), el(2, "p", 1)), api.OK, 0},
		{"in another parent", below(el(1, "p", 1), el(2, "p", 5), el(1, "p", 2), el(2, "p", 5)), api.OK, 0},
		{"in another parent, deeper", below(el(1, "p", 0), el(2, "p", 0), el(3, "p", 5), el(2, "p", 0), el(3, "p", 5)), api.OK, 0},
		{"a child's child ahead", below(el(1, "p", 0), el(2, "p", 7), el(1, "p", 7)), api.OK, 0},
		{"an uncle ahead", below(el(1, "p", 7), el(1, "p", 8), el(2, "p", 7)), api.OK, 0},
		{"behind a deep brother", append(append(chain(1), el(1, "p", 3)), el(2, "q", 0), el(3, "q", 0), el(1, "r", 3)), api.ErrTree, 4},
	})
}

func TestCheckTellsTheFirst(t *testing.T) {
	runChecks(t, []checkCase{
		{"two wrong", below(tx(1, ""), el(1, "P", 0), el(1, "Q", 0)), api.ErrTree, 2},
		{"the later one is of another kind", below(el(3, "p", 0), tx(1, strings.Repeat("x", 21))), api.ErrTree, 1},
		{"of two keys alike the second", below(el(1, "p", 1), el(1, "q", 0), el(1, "p", 1), el(1, "P", 0)), api.ErrTree, 3},
		{"the first one and more", list(el(1, "p", 0), el(1, "P", 0)), api.ErrTree, 0},
		{"all", make([]api.Node, 400), api.ErrTree, 0},
	})
	for i := range 400 {
		l := wide(400)
		l[i].Key = -1
		runChecks(t, []checkCase{{"each place", l, api.ErrTree, i}})
	}
}

// letters: the document's 'name', read letter by letter.
func letters(s string) bool {
	return len(s) >= 1 && len(s) <= 8 && strings.Trim(s, "abcdefghijklmnopqrstuvwxyz") == ""
}

// parentIn: the last node ahead whose depth is one less; -1, if there is none.
func parentIn(l []api.Node, i int) int {
	for j := i - 1; j >= 0; j-- {
		if l[j].Depth == l[i].Depth-1 {
			return j
		}
	}
	return -1
}

// plainly: whether node i may be at its place, by the document's words one by one.
func plainly(l []api.Node, i int) bool {
	n := l[i]
	if i == 0 && (n.Depth != 0 || n.Tag == "") {
		return false
	}
	if i > 0 && (n.Depth < 1 || n.Depth > l[i-1].Depth+1 || n.Depth > 11) {
		return false
	}
	p := parentIn(l, i)
	if i > 0 && (p < 0 || l[p].Tag == "") {
		return false
	}
	if n.Tag == "" {
		return n.Key == 0 && len(n.Attrs) == 0 && len(n.Text) <= 20
	}
	for j := range i {
		if n.Key != 0 && l[j].Key == n.Key && parentIn(l, j) == p {
			return false
		}
	}
	for k, a := range n.Attrs {
		if !letters(a.Name) || len(a.Value) > 20 || k > 0 && strings.Compare(l[i].Attrs[k-1].Name, a.Name) != -1 {
			return false
		}
	}
	return letters(n.Tag) && n.Text == "" && n.Key >= 0 && len(n.Attrs) <= 5
}

func plainCheck(l []api.Node) (api.Errno, int) {
	if len(l) < 1 || len(l) > 400 {
		return api.ErrMany, 0
	}
	for i := range l {
		if !plainly(l, i) {
			return api.ErrTree, i
		}
	}
	return api.OK, 0
}

// TestCheckAllSmall: every list of up to five of these nodes.
func TestCheckAllSmall(t *testing.T) {
	pool := list(
		el(0, "a", 0), el(1, "a", 0), el(1, "a", 1), el(1, "b", 1), el(2, "a", 1), el(2, "a", 2), el(3, "a", 1),
		tx(1, "x"), tx(2, ""), el(1, "A", 0), el(1, "a", 0, at("b", ""), at("a", "")), api.Node{Depth: 1, Tag: "a", Text: "x"},
	)
	good := 0
	var try func(l []api.Node)
	try = func(l []api.Node) {
		no, at := batten.Check(l)
		wantNo, wantAt := plainCheck(l)
		if no != wantNo || at != wantAt {
			t.Fatalf("P3: Check(%v) = %d, %d, want %d, %d", l, no, at, wantNo, wantAt)
		}
		if no == api.OK {
			good++
		}
		if len(l) == 5 {
			return
		}
		for _, n := range pool {
			try(append(l[:len(l):len(l)], n))
		}
	}
	try(nil)
	if good < 100 {
		t.Errorf("only %d lists were trees: too few to tell much", good)
	}
}

// TestCheckWritesNothing: neither the list nor what is within it nor their spare room (P2).
func TestCheckWritesNothing(t *testing.T) {
	build := func() []api.Node {
		l := append(make([]api.Node, 0, 8), el(0, "div", 0), el(1, "p", 1), tx(2, "x"), el(1, "p", 1))
		spare := append(make([]api.Attr, 0, 4), at("a", "1"), at("b", "2"), at("spare", "s"), at("room", "r"))
		l[1].Attrs = spare[:2]
		copy(l[4:8], list(el(7, "spare", 7), tx(8, "spare"), el(9, "Spare", -9), tx(10, "room")))
		return l
	}
	l, want := build(), build()
	for range 2 {
		runChecks(t, []checkCase{{"a key twice", l, api.ErrTree, 3}, {"without it", l[:3], api.OK, 0}})
	}
	if !reflect.DeepEqual(l[:8], want[:8]) || !reflect.DeepEqual(l[1].Attrs[:4], want[1].Attrs[:4]) {
		t.Errorf("P2: the list was written into: %v, want %v", l[:8], want[:8])
	}
}

// TestCheckKeepsNothing: an answer hangs on the list as it is now, not on an earlier call (P2).
func TestCheckKeepsNothing(t *testing.T) {
	l := below(el(1, "p", 1), el(1, "p", 2))
	runChecks(t, []checkCase{{"ahead", l, api.OK, 0}})
	l[2].Key = 1
	runChecks(t, []checkCase{{"changed", l, api.ErrTree, 2}})
	l[2].Key = 2
	runChecks(t, []checkCase{{"changed back", l, api.OK, 0}})
}
