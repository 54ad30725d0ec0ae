package batten_test

import (
	"math"
	"reflect"
	"slices"
	"testing"

	"batten/api"
	"batten/batten"
)

func mount(name, parent int) api.Op { return api.Op{Kind: api.Mount, Name: name, Parent: parent} }

func unmount(name int) api.Op { return api.Op{Kind: api.Unmount, Name: name} }

func put(name, field, n int) api.Op {
	return api.Op{Kind: api.Put, Name: name, Field: field, N: n}
}

func add(name, field, n int) api.Op {
	return api.Op{Kind: api.Add, Name: name, Field: field, N: n}
}

func push(name, n int) api.Op { return api.Op{Kind: api.Push, Name: name, N: n} }

func pull(name, n int) api.Op { return api.Op{Kind: api.Pull, Name: name, N: n} }

func swap(name, n, m int) api.Op { return api.Op{Kind: api.Swap, Name: name, N: n, M: m} }

func flush() api.Op { return api.Op{Kind: api.Flush} }

func read() api.Op { return api.Op{Kind: api.Read} }

// acts: of one task.
func acts(l ...api.Op) []api.Op { return l }

// times: so often the same act.
func times(n int, a api.Op) []api.Op { return slices.Repeat(acts(a), n) }

// newUI: a UI of tasks whose acts may be.
func newUI(t *testing.T, tasks ...[]api.Op) *batten.UI {
	t.Helper()
	u, no, at := batten.NewUI(tasks)
	if u == nil || no != api.OK || at != 0 {
		t.Fatalf("P7: NewUI(%v) = %v, %d, %d, want a UI", tasks, u, no, at)
	}
	return u
}

// steps: each of them is answered so.
func steps(t *testing.T, u *batten.UI, no api.Errno, tasks ...int) {
	t.Helper()
	for i, k := range tasks {
		if got := u.Step(k); got != no {
			t.Fatalf("P8: step %d of these: Step(%d) = %d, want %d", i, k, got, no)
		}
	}
}

// looks: what Tree tells.
func looks(t *testing.T, u *batten.UI, version string, l ...api.Node) {
	t.Helper()
	want := append(list(el(0, "ui", 0, at("v", version))), l...)
	if got := u.Tree(); !alike(got, want) {
		t.Fatalf("P9: Tree() = %v, want %v", got, want)
	}
	if got := u.IDs(); len(got) != len(want) {
		t.Fatalf("P9: IDs() = %v of %v", got, want)
	}
}

// told: what Events and Commits tell.
func told(t *testing.T, u *batten.UI, events []api.Event, commits []api.Commit) {
	t.Helper()
	if got := u.Events(); !slices.Equal(got, events) {
		t.Fatalf("P9: Events() = %v, want %v", got, events)
	}
	if got := u.Commits(); !slices.Equal(got, commits) {
		t.Fatalf("P9: Commits() = %v, want %v", got, commits)
	}
}

// uiRefused: an error, the task that is told, and no UI.
func uiRefused(t *testing.T, no api.Errno, at int, tasks ...[]api.Op) {
	t.Helper()
	if u, gotNo, gotAt := batten.NewUI(tasks); u != nil || gotNo != no || gotAt != at {
		t.Errorf("P7: NewUI(%v) = %v, %d, %d, want nothing, %d, %d", tasks, u, gotNo, gotAt, no, at)
	}
}

func TestNewUIBegins(t *testing.T) {
	for _, tasks := range [][][]api.Op{nil, {}, {nil}, {{}, nil}, {acts(mount(1, 0)), acts(read())}} {
		u := newUI(t, tasks...)
		looks(t, u, "0")
		told(t, u, nil, nil)
		if ids := u.IDs(); !slices.Equal(ids, []int{1}) {
			t.Errorf("P7: IDs() = %v, want 1", ids)
		}
		steps(t, u, api.ErrWait, 0, 0)
	}
}

func TestNewUIMany(t *testing.T) {
	wrong := acts(api.Op{})
	newUI(t, nil, nil, nil, nil)
	newUI(t, times(12, read()), times(12, flush()), times(12, push(1, 1)), times(12, mount(1, 2)))
	uiRefused(t, api.ErrMany, 0, nil, nil, nil, nil, nil)
	uiRefused(t, api.ErrMany, 0, make([][]api.Op, 1000)...)
	uiRefused(t, api.ErrMany, 0, times(13, read()))
	uiRefused(t, api.ErrMany, 0, nil, nil, nil, times(13, read()))
	uiRefused(t, api.ErrMany, 0, make([]api.Op, 100000))
	// Many is told ahead of an act that may not be.
	uiRefused(t, api.ErrMany, 0, wrong, nil, nil, nil, nil)
	uiRefused(t, api.ErrMany, 0, wrong, nil, times(13, read()))
	uiRefused(t, api.ErrMany, 0, append(times(12, read()), wrong...))
}

func TestNewUITellsTheFirst(t *testing.T) {
	good, wrong := acts(mount(1, 0), read()), acts(read(), api.Op{Kind: 10})
	uiRefused(t, api.ErrOp, 1, wrong)
	uiRefused(t, api.ErrOp, 1, wrong, wrong, wrong, wrong)
	uiRefused(t, api.ErrOp, 2, good, wrong, good, wrong)
	uiRefused(t, api.ErrOp, 3, nil, good, append(times(11, read()), mount(1, 1)))
	uiRefused(t, api.ErrOp, 4, good, good, nil, wrong)
	uiRefused(t, api.ErrOp, 4, times(12, read()), good, good, append(wrong, good...))
}

// plainMayBe: whether an act may be, read off the document.
func plainMayBe(a api.Op) bool {
	name := a.Name >= 1 && a.Name <= 20
	field := a.Field >= 1 && a.Field <= 3
	switch a.Kind {
	case 1:
		return name && a.Parent >= 0 && a.Parent <= 20 && a.Parent != a.Name && a.Field == 0 && a.N == 0 && a.M == 0
	case 2:
		return name && a.Parent == 0 && a.Field == 0 && a.N == 0 && a.M == 0
	case 3, 4:
		return name && field && a.Parent == 0 && a.M == 0
	case 5, 6:
		return name && a.N >= 0 && a.N <= 30 && a.Parent == 0 && a.Field == 0 && a.M == 0
	case 7:
		return name && a.N >= 0 && a.M >= 0 && a.Parent == 0 && a.Field == 0
	case 8, 9:
		return a.Name == 0 && a.Parent == 0 && a.Field == 0 && a.N == 0 && a.M == 0
	}
	return false
}

// TestActs: of acts that may be, any two of their numbers changed.
func TestActs(t *testing.T) {
	values := []int{math.MinInt, math.MinInt + 1, -30, -1, 0, 1, 2, 3, 4, 5, 6, 7, 8, 9, 10, 19, 20, 21, 29, 30, 31, 100, math.MaxInt - 1, math.MaxInt}
	first := acts(mount(7, 0), mount(7, 3), unmount(20), put(1, 1, -9), add(20, 3, 9), push(2, 0), pull(3, 30), swap(4, 0, 0), swap(5, 7, 9), flush(), read(), api.Op{Kind: 10}, api.Op{Kind: 10, Name: 1}, api.Op{Kind: 0, Name: 1}, api.Op{Kind: -1, Name: 1})
	may, not := map[int]int{}, map[int]int{}
	for _, a := range first {
		fields := func(a *api.Op) []*int { return []*int{&a.Kind, &a.Name, &a.Parent, &a.Field, &a.N, &a.M} }
		for i := range 6 {
			for k := range i {
				for _, x := range values {
					for _, y := range values {
						b := a
						*fields(&b)[i], *fields(&b)[k] = x, y
						if plainMayBe(b) {
							may[b.Kind]++
							newUI(t, acts(b))
						} else {
							not[b.Kind]++
							uiRefused(t, api.ErrOp, 1, acts(b))
						}
					}
				}
			}
		}
	}
	for kind := 1; kind <= 9; kind++ {
		if may[kind] < 15 || not[kind] < 15 {
			t.Errorf("kind %d: %d may be, %d not: too few to tell much", kind, may[kind], not[kind])
		}
	}
}

// TestNewUIKeepsNothing: neither writes into what is handed in, nor keeps it (P2).
func TestNewUIKeepsNothing(t *testing.T) {
	build := func() [][]api.Op {
		one := append(make([]api.Op, 0, 6), mount(1, 0), push(1, 5), flush(), read(), push(9, 9))
		two := acts(mount(2, 1), read())
		return append(make([][]api.Op, 0, 4), one[:3], two, one)[:2]
	}
	tasks, want := build(), build()
	u := newUI(t, tasks...)
	other := newUI(t, tasks...)
	run := func(u *batten.UI) {
		steps(t, u, api.OK, 1, 1, 0, 0, 1, 1, 2, 2, 0, 0, 0, 1, 2)
		looks(t, u, "2", el(1, "c", 1), el(2, "i", 105), tx(3, "5"), el(2, "c", 2))
	}
	run(u)
	if !reflect.DeepEqual(tasks[:4], want[:4]) || !reflect.DeepEqual(tasks[0][:6], want[0][:6]) {
		t.Errorf("P2: %v, want %v", tasks[:4], want[:4])
	}
	for _, l := range tasks {
		for i := range l[:cap(l)] {
			l[:cap(l)][i] = mount(9, 0)
		}
	}
	tasks[0], tasks[1] = nil, times(13, read())
	run(other)
}

// TestUIAnswersAreNew: writing into an answer changes no other and no later one (P2).
func TestUIAnswersAreNew(t *testing.T) {
	u := newUI(t, acts(mount(1, 0), put(1, 1, 4), put(1, 2, 5), read(), read(), read(), push(1, 1)))
	steps(t, u, api.OK, 1, 1, 0, 0, 1, 1, 0, 0, 1, 1, 0, 0, 1, 1, 1)
	events := []api.Event{{Task: 1, Kind: api.Read, Version: 3, Upto: 3}}
	events = append(events, events[0], events[0])
	commits := []api.Commit{{Upto: 1, Patches: 3}, {Upto: 2, Patches: 2}, {Upto: 3, Patches: 2}}
	kept, keptIDs, keptEvents, keptCommits := u.Tree(), u.IDs(), u.Events(), u.Commits()
	sees := func() {
		t.Helper()
		looks(t, u, "3", el(1, "c", 1, at("a", "4"), at("b", "5")))
		told(t, u, events, commits)
		if !slices.Equal(u.IDs(), upTo(2)) || !alike(kept, u.Tree()) || !slices.Equal(keptIDs, upTo(2)) || !slices.Equal(keptEvents, events) || !slices.Equal(keptCommits, commits) {
			t.Fatalf("P2: answers were changed: %v, %v, %v, %v", kept, keptIDs, keptEvents, keptCommits)
		}
	}
	sees()
	overwrite(u.Tree())
	ids, e, c := u.IDs(), u.Events(), u.Commits()
	clear(ids[:cap(ids)])
	clear(e[:cap(e)])
	clear(c[:cap(c)])
	sees()
	keptTree := u.Tree()
	steps(t, u, api.OK, 1, 1, 0, 0)
	if !alike(kept, keptTree) || len(keptEvents) != 3 || !slices.Equal(keptCommits[:3], commits) {
		t.Errorf("P2: an answer was changed by a later call: %v, %v", kept, keptCommits)
	}
	looks(t, u, "4", el(1, "c", 1, at("a", "4"), at("b", "5")), el(2, "i", 101), tx(3, "1"))
}

// TestUIsApart: UIs and documents do not disturb one another (P2).
func TestUIsApart(t *testing.T) {
	tasks := [][]api.Op{acts(mount(1, 0), push(1, 5), flush()), acts(mount(2, 0), read())}
	a, b, alone := newUI(t, tasks...), newUI(t, tasks...), newUI(t, tasks...)
	d := newDom(t, a.Tree())
	for _, k := range []int{2, 1, 1, 2, 0, 0, 0, 1, 1, 0, 0, 1, 2} {
		steps(t, a, api.OK, k)
		steps(t, newUI(t, acts(mount(3, 0)), acts(mount(4, 0))), api.OK, max(k, 1))
	}
	applies(t, d, api.OK, 0, create(2, "c", 1), insert(2, 1, 0), set(1, "v", "9"))
	looks(t, b, "0")
	steps(t, b, api.OK, 1, 1, 0, 0)
	looks(t, b, "1", el(1, "c", 1))
	looks(t, a, "2", el(1, "c", 1), el(2, "i", 105), tx(3, "5"), el(1, "c", 2))
	told(t, alone, nil, nil)
	steps(t, alone, api.ErrWait, 0)
}
