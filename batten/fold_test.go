package batten_test

import (
	"math"
	"slices"
	"strconv"
	"testing"

	"batten/api"
)

// folded: a UI whose tasks have done these updates one by one, each in a commit of its own.
func folded(t *testing.T, l ...api.Op) *bothUI {
	t.Helper()
	b := newBothUI(t, slices.Collect(slices.Chunk(l, 12))...)
	for i := range l {
		k := i/12 + 1
		b.steps(t, k, k, 0, 0)
	}
	if n := len(b.u.Commits()); n != len(l) {
		t.Fatalf("P8: %d commits of %d updates", n, len(l))
	}
	return b
}

// number: what is seen of a number of a component.
func number(depth, n int) []api.Node {
	return list(el(depth, "i", 100+n), tx(depth+1, strconv.Itoa(n)))
}

// numbers: a component 1 with these numbers.
func numbers(l ...int) []api.Node {
	nodes := list(el(1, "c", 1))
	for _, n := range l {
		nodes = append(nodes, number(2, n)...)
	}
	return nodes
}

// one: a component 1, and updates of it.
func one(l ...api.Op) []api.Op { return append(acts(mount(1, 0)), l...) }

// pushed: a component 1 with these numbers.
func pushed(l ...int) []api.Op {
	a := one()
	for _, n := range l {
		a = append(a, push(1, n))
	}
	return a
}

// foldCase: updates, what is seen behind them, and how many patches the last commit took.
type foldCase struct {
	name    string
	updates []api.Op
	want    []api.Node
	patches int
}

func runFolds(t *testing.T, cases []foldCase) {
	t.Helper()
	for _, c := range cases {
		t.Run(c.name, func(t *testing.T) {
			u := folded(t, c.updates...).u
			looks(t, u, strconv.Itoa(len(c.updates)), c.want...)
			if got := u.Commits()[len(c.updates)-1]; got != (api.Commit{Upto: len(c.updates), Patches: c.patches}) {
				t.Errorf("P9: the last commit is %v, want %d patches", got, c.patches)
			}
		})
	}
}

// five: components within one another, 1 to 5.
func five() []api.Op {
	return acts(mount(1, 0), mount(2, 1), mount(3, 2), mount(4, 3), mount(5, 4))
}

// fiveSeen: what is seen of them, down to so many.
func fiveSeen(n int) []api.Node {
	var l []api.Node
	for i := range n {
		l = append(l, el(i+1, "c", i+1))
	}
	return l
}

func TestFoldMount(t *testing.T) {
	runFolds(t, []foldCase{
		{"one", one(), list(el(1, "c", 1)), 3},
		{"the greatest name", acts(mount(20, 0)), list(el(1, "c", 20)), 3},
		{"by rising names", acts(mount(20, 0), mount(3, 0), mount(10, 0), mount(1, 0)), list(el(1, "c", 1), el(1, "c", 3), el(1, "c", 10), el(1, "c", 20)), 3},
		{"by rising names within another", acts(mount(5, 0), mount(20, 5), mount(1, 5), mount(9, 5), mount(4, 9)), list(el(1, "c", 5), el(2, "c", 1), el(2, "c", 9), el(3, "c", 4), el(2, "c", 20)), 3},
		{"behind the numbers", acts(mount(5, 0), mount(3, 5), push(5, 30), push(3, 7)), slices.Concat(list(el(1, "c", 5)), number(2, 30), list(el(2, "c", 3)), number(3, 7)), 5},
		{"mounted already", one(put(1, 2, 3), push(1, 4), mount(1, 0)), append(list(el(1, "c", 1, at("b", "3"))), number(2, 4)...), 1},
		{"mounted already, elsewhere", one(mount(2, 0), mount(1, 2)), list(el(1, "c", 1), el(1, "c", 2)), 1},
		{"mounted already, as its parent's parent", one(mount(2, 1), mount(1, 2)), list(el(1, "c", 1), el(2, "c", 2)), 1},
		{"a parent that never was mounted", acts(mount(1, 2)), nil, 1},
		{"a parent that is mounted no more", one(unmount(1), mount(2, 1)), nil, 1},
		{"a parent that is mounted again", one(unmount(1), mount(1, 0), mount(2, 1)), list(el(1, "c", 1), el(2, "c", 2)), 3},
		{"3 above the parent", five(), fiveSeen(5), 3},
		{"4 above the parent", append(five(), mount(6, 5)), fiveSeen(5), 1},
		{"4 above the parent, some go", append(five(), unmount(4), mount(5, 3), mount(6, 5), mount(7, 6)), append(fiveSeen(3), el(4, "c", 5), el(5, "c", 6)), 1},
		{"two below the fourth", append(five(), mount(6, 4)), append(fiveSeen(5), el(5, "c", 6)), 3},
		{"anew: fields 0, no numbers", one(put(1, 1, 1), add(1, 3, 2), push(1, 3), unmount(1), mount(1, 0)), list(el(1, "c", 1)), 3},
		{"anew, elsewhere", one(mount(2, 0), unmount(1), mount(1, 2)), list(el(1, "c", 2), el(2, "c", 1)), 3},
	})
}

func TestFoldUnmount(t *testing.T) {
	runFolds(t, []foldCase{
		{"one", one(unmount(1)), nil, 2},
		{"not mounted", acts(unmount(1)), nil, 1},
		{"twice", one(unmount(1), unmount(1)), nil, 1},
		{"with its numbers", one(push(1, 3), push(1, 4), unmount(1)), nil, 2},
		{"with all within", append(five(), unmount(1)), nil, 2},
		{"with all within, not what is above", append(five(), unmount(3)), fiveSeen(2), 2},
		{"the last one", append(five(), unmount(5)), fiveSeen(4), 2},
		{"not those beside", acts(mount(1, 0), mount(2, 0), mount(3, 1), mount(4, 2), mount(5, 1), unmount(1)), list(el(1, "c", 2), el(2, "c", 4)), 2},
		{"names below the parent's", acts(mount(9, 0), mount(5, 9), mount(2, 5), mount(7, 0), unmount(9)), list(el(1, "c", 7)), 2},
		{"what was within does not come back", append(five(), unmount(2), mount(2, 1)), fiveSeen(2), 3},
		{"what was within may be mounted again", append(five(), unmount(2), mount(5, 0)), append(fiveSeen(1), el(1, "c", 5)), 3},
		{"what was within has its fields no more", append(five(), put(5, 1, 1), unmount(2), mount(5, 0)), append(fiveSeen(1), el(1, "c", 5)), 3},
	})
}

func TestFoldFields(t *testing.T) {
	seen := func(l ...api.Attr) []api.Node { return list(el(1, "c", 1, l...)) }
	runFolds(t, []foldCase{
		{"a", one(put(1, 1, 7)), seen(at("a", "7")), 2},
		{"b", one(put(1, 2, 7)), seen(at("b", "7")), 2},
		{"c", one(put(1, 3, 7)), seen(at("c", "7")), 2},
		{"all", one(put(1, 3, 1), add(1, 2, 22), put(1, 1, -333)), seen(at("a", "-333"), at("b", "22"), at("c", "1")), 2},
		{"put again", one(put(1, 1, 7), put(1, 1, 8)), seen(at("a", "8")), 2},
		{"put alike", one(put(1, 1, 7), put(1, 1, 7)), seen(at("a", "7")), 1},
		{"put to 0", one(put(1, 1, 7), put(1, 1, 0)), seen(), 2},
		{"put to 0 what is 0", one(put(1, 1, 0)), seen(), 1},
		{"added from 0", one(add(1, 1, -5)), seen(at("a", "-5")), 2},
		{"added", one(add(1, 1, 30), add(1, 1, 12)), seen(at("a", "42")), 2},
		{"added to 0", one(put(1, 3, -5), add(1, 3, 5)), seen(), 2},
		{"added 0", one(put(1, 3, -5), add(1, 3, 0)), seen(at("c", "-5")), 1},
		{"the greatest", one(put(1, 1, math.MaxInt)), seen(at("a", "9223372036854775807")), 2},
		{"the least", one(put(1, 1, math.MinInt)), seen(at("a", "-9223372036854775808")), 2},
		{"round upward", one(put(1, 2, math.MaxInt), add(1, 2, 1)), seen(at("b", "-9223372036854775808")), 2},
		{"round downward", one(put(1, 2, math.MinInt), add(1, 2, -1)), seen(at("b", "9223372036854775807")), 2},
		{"round to 0", one(put(1, 2, math.MinInt), add(1, 2, math.MinInt)), seen(), 2},
		{"round twice", one(put(1, 2, math.MaxInt), add(1, 2, math.MaxInt), add(1, 2, math.MaxInt)), seen(at("b", "9223372036854775805")), 2},
		{"not mounted", acts(put(1, 1, 7), add(1, 1, 7), mount(1, 0)), seen(), 3},
		{"of another", one(mount(2, 0), put(2, 1, 7)), list(el(1, "c", 1), el(1, "c", 2, at("a", "7"))), 2},
	})
}

func TestFoldNumbers(t *testing.T) {
	full := []int{3, 1, 4, 0, 5, 9, 2, 6}
	runFolds(t, []foldCase{
		{"pushed", pushed(5), numbers(5), 5},
		{"the least and the greatest", pushed(30, 0), numbers(30, 0), 5},
		{"in their order", pushed(5, 3, 4), numbers(5, 3, 4), 5},
		{"in the list already", pushed(5, 3, 5), numbers(5, 3), 1},
		{"eight", pushed(full...), numbers(full...), 5},
		{"nine", append(pushed(full...), push(1, 7)), numbers(full...), 1},
		{"nine, in the list already", append(pushed(full...), push(1, 3)), numbers(full...), 1},
		{"room again", append(pushed(full...), pull(1, 4), push(1, 7)), numbers(3, 1, 0, 5, 9, 2, 6, 7), 5},
		{"pulled", append(pushed(5), pull(1, 5)), numbers(), 2},
		{"pulled first", append(pushed(5, 6, 7), pull(1, 5)), numbers(6, 7), 2},
		{"pulled between", append(pushed(5, 6, 7), pull(1, 6)), numbers(5, 7), 2},
		{"pulled last", append(pushed(5, 6, 7), pull(1, 7)), numbers(5, 6), 2},
		{"pulled 0", append(pushed(0, 30), pull(1, 0)), numbers(30), 2},
		{"not in the list", append(pushed(5, 6), pull(1, 7)), numbers(5, 6), 1},
		{"pulled of an empty list", one(pull(1, 0)), numbers(), 1},
		{"pulled twice", append(pushed(5, 6), pull(1, 5), pull(1, 5)), numbers(6), 1},
		{"pushed again", append(pushed(5, 6), pull(1, 5), push(1, 5)), numbers(6, 5), 5},
		{"not mounted", acts(push(1, 1), pull(1, 1), swap(1, 0, 1), mount(1, 0)), numbers(), 3},
		{"two lists", append(pushed(5), mount(2, 0), push(2, 5), pull(1, 5)), append(numbers(), append(list(el(1, "c", 2)), number(2, 5)...)...), 2},
	})
}

func TestFoldSwap(t *testing.T) {
	runFolds(t, []foldCase{
		{"two", append(pushed(5, 6), swap(1, 0, 1)), numbers(6, 5), 2},
		{"the first and the last", append(pushed(5, 6, 7, 8), swap(1, 3, 0)), numbers(8, 6, 7, 5), 3},
		{"beside one another", append(pushed(5, 6, 7, 8), swap(1, 1, 2)), numbers(5, 7, 6, 8), 2},
		{"a place with itself", append(pushed(5, 6, 7), swap(1, 1, 1)), numbers(5, 6, 7), 1},
		{"a place with itself, modulo", append(pushed(5, 6, 7), swap(1, 1, 4)), numbers(5, 6, 7), 1},
		{"as many as there are", append(pushed(5, 6, 7), swap(1, 3, 5)), numbers(7, 6, 5), 3},
		{"modulo", append(pushed(5, 6, 7), swap(1, 7, 300)), numbers(6, 5, 7), 2},
		{"the greatest", append(pushed(5, 6), swap(1, math.MaxInt, math.MaxInt-1)), numbers(6, 5), 2},
		{"the greatest of three", append(pushed(5, 6, 7), swap(1, math.MaxInt, 0)), numbers(6, 5, 7), 2},
		{"one", append(pushed(5), swap(1, 3, 8)), numbers(5), 1},
		{"an empty list", one(swap(1, 0, 1)), numbers(), 1},
		{"a list that is empty again", append(pushed(5), pull(1, 5), swap(1, 0, 0)), numbers(), 1},
		{"two components", append(pushed(5, 6), mount(2, 0), push(2, 5), push(2, 6), swap(2, 0, 1)), slices.Concat(numbers(5, 6), list(el(1, "c", 2)), number(2, 6), number(2, 5)), 2},
	})
}

// atOnce: a UI that has done the first updates one by one, the others in one commit.
func atOnce(t *testing.T, first, then []api.Op) *bothUI {
	t.Helper()
	b := newBothUI(t, first, then)
	for range first {
		b.steps(t, 1, 1, 0, 0)
	}
	for range then {
		b.steps(t, 2, 2)
	}
	for range then {
		b.steps(t, 0)
	}
	b.steps(t, 0)
	if got := b.u.Commits()[len(first)].Upto; got != len(first)+len(then) {
		t.Fatalf("P8: the last commit is up to %d of %d", got, len(first)+len(then))
	}
	return b
}

// TestFoldAtOnce: what a batch does together is brought to the document by one Diff.
func TestFoldAtOnce(t *testing.T) {
	for _, c := range []struct {
		name        string
		first, then []api.Op
		want        []api.Node
		patches     int
	}{
		{"mounts", nil, append(five(), mount(6, 5), mount(7, 4)), append(fiveSeen(5), el(5, "c", 7)), 13},
		{"a parent that is mounted later", nil, acts(mount(2, 1), mount(1, 0)), fiveSeen(1), 3},
		{"pushed and pulled", pushed(5), acts(push(1, 6), pull(1, 5), push(1, 5), pull(1, 6)), numbers(5), 1},
		{"pulled and pushed", pushed(5, 6, 7), acts(pull(1, 5), push(1, 5)), numbers(6, 7, 5), 2},
		{"from behind", pushed(1, 2, 3, 4, 5), acts(swap(1, 0, 4), swap(1, 1, 3)), numbers(5, 4, 3, 2, 1), 5},
		{"put and added", one(), acts(put(1, 1, 5), add(1, 1, 6), add(1, 2, 1), add(1, 2, -1)), list(el(1, "c", 1, at("a", "11"))), 2},
		{"unmounted and mounted", append(pushed(5), put(1, 1, 9)), acts(unmount(1), mount(1, 0), push(1, 6)), numbers(), 3},
		{"unmounted, then put", one(mount(2, 1)), acts(unmount(1), put(1, 1, 1), put(2, 1, 1), mount(2, 1)), nil, 2},
		{"unmounted and mounted elsewhere", one(mount(2, 0), push(2, 5)), acts(unmount(2), mount(2, 1)), list(el(1, "c", 1), el(2, "c", 2)), 4},
	} {
		t.Run(c.name, func(t *testing.T) {
			u := atOnce(t, c.first, c.then).u
			looks(t, u, strconv.Itoa(len(c.first)+1), c.want...)
			if got := u.Commits()[len(c.first)].Patches; got != c.patches {
				t.Errorf("P9: %d patches, want %d", got, c.patches)
			}
		})
	}
}

// TestStaysItself: what stays mounted, and what stays in a list, keeps its ID (P10).
func TestStaysItself(t *testing.T) {
	first := append(pushed(5, 6, 7), mount(3, 1), mount(2, 0), push(3, 5))
	ids := folded(t, first...).u.IDs()
	for _, c := range []struct {
		then []api.Op
		want []int // where each node stood: 0 ui, 1 c 1, 2 i 5, 4 i 6, 6 i 7, 8 c 3, 9 i 5, 11 c 2; -1: nowhere
	}{
		{acts(swap(1, 0, 2), swap(1, 0, 1)), []int{0, 1, 4, 5, 6, 7, 2, 3, 8, 9, 10, 11}},
		{acts(pull(1, 6), put(1, 1, 4), unmount(2), push(1, 9)), []int{0, 1, 2, 3, 6, 7, -1, -1, 8, 9, 10}},
		{acts(mount(10, 1), mount(1, 0), push(1, 5)), []int{0, 1, 2, 3, 4, 5, 6, 7, 8, 9, 10, -1, 11}},
		{acts(pull(1, 5), push(1, 5), unmount(3), mount(3, 0)), []int{0, 1, 4, 5, 6, 7, 2, 3, 11, -1}},
	} {
		now := atOnce(t, first, c.then).u.IDs()
		if len(now) != len(c.want) {
			t.Fatalf("P10: %v: IDs() = %v, want %d", c.then, now, len(c.want))
		}
		for i, was := range c.want {
			if was >= 0 && now[i] != ids[was] || was < 0 && slices.Contains(ids, now[i]) {
				t.Errorf("P10: %v: IDs() = %v, were %v", c.then, now, ids)
			}
		}
	}
}
