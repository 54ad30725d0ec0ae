package batten_test

import (
	"math"
	"slices"
	"strconv"
	"testing"

	"batten/api"
	"batten/batten"
)

func TestUIExample(t *testing.T) {
	u := newUI(t, acts(mount(7, 0), flush(), push(7, 5)), acts(read()))
	steps(t, u, api.OK, 1, 1)
	steps(t, u, api.ErrWait, 1)
	steps(t, u, api.OK, 0)
	looks(t, u, "0")
	steps(t, u, api.OK, 0)
	looks(t, u, "1", el(1, "c", 7))
	steps(t, u, api.OK, 1, 2, 1, 1, 0, 0)
	looks(t, u, "2", el(1, "c", 7), el(2, "i", 105), tx(3, "5"))
	told(t, u, []api.Event{{Task: 1, Kind: api.Flush, Version: 1, Upto: 1}, {Task: 2, Kind: api.Read, Version: 1, Upto: 1}},
		[]api.Commit{{Upto: 1, Patches: 3}, {Upto: 2, Patches: 5}})
	if ids := u.IDs(); ids[0] != 1 || ids[1] != 2 {
		t.Errorf("P10: IDs() = %v, want 1, 2 ahead", ids)
	}
}

// unmoved: each of these steps is refused, and changes nothing.
func unmoved(t *testing.T, u *batten.UI, no api.Errno, tasks ...int) {
	t.Helper()
	l, ids, events, commits := u.Tree(), u.IDs(), u.Events(), u.Commits()
	steps(t, u, no, tasks...)
	told(t, u, events, commits)
	if !alike(u.Tree(), l) || !slices.Equal(u.IDs(), ids) {
		t.Fatalf("P1: %v, %v, were %v, %v", u.Tree(), u.IDs(), l, ids)
	}
}

func TestStepErrors(t *testing.T) {
	none := []int{math.MinInt, math.MinInt + 1, -2, -1, 3, 4, 5, 100, math.MaxInt - 1, math.MaxInt}
	u := newUI(t, acts(mount(1, 0), flush(), read()), nil)
	for _, next := range [][]int{{1}, {1}, {0}, {0}, {1}, {1}} {
		unmoved(t, u, api.ErrTask, none...)
		unmoved(t, u, api.ErrDone, 2, 2)
		steps(t, u, api.OK, next...)
	}
	unmoved(t, u, api.ErrTask, none...)
	unmoved(t, u, api.ErrDone, 1, 2, 1, 2)
	unmoved(t, u, api.ErrWait, 0, 0, 0)
	looks(t, u, "1", el(1, "c", 1))
	for n := range 5 {
		u := newUI(t, make([][]api.Op, n)...)
		unmoved(t, u, api.ErrTask, n+1, -1, -n-1)
		for k := 1; k <= n; k++ {
			unmoved(t, u, api.ErrDone, k)
		}
		unmoved(t, u, api.ErrWait, 0)
	}
}

// after: a UI that has done these steps.
func after(t *testing.T, tasks [][]api.Op, done []int) *batten.UI {
	t.Helper()
	u := newUI(t, tasks...)
	steps(t, u, api.OK, done...)
	return u
}

// TestErrorsChangeNothing: a run with all that is refused between its steps ends as one without.
func TestErrorsChangeNothing(t *testing.T) {
	tasks := [][]api.Op{acts(mount(1, 0), flush(), push(1, 5), flush(), read()), acts(push(1, 6), flush()), nil}
	order := []int{1, 1, 0, 0, 1, 2, 1, 1, 2, 0, 0, 0, 2, 1, 1}
	u := newUI(t, tasks...)
	refusals := map[api.Errno]int{}
	for i, k := range order {
		steps(t, u, api.OK, k)
		for _, other := range []int{-1, 4, 3, 1, 2, 0} {
			if no := after(t, tasks, order[:i+1]).Step(other); no != api.OK {
				refusals[no]++
				unmoved(t, u, no, other, other)
			}
		}
	}
	plain := after(t, tasks, order)
	told(t, u, plain.Events(), plain.Commits())
	if !alike(u.Tree(), plain.Tree()) || !slices.Equal(u.IDs(), plain.IDs()) || len(refusals) != 3 {
		t.Errorf("P1: %v, want %v; refused %v", u.Tree(), plain.Tree(), refusals)
	}
}

// TestTickets: an update that is linked waits for those with lower tickets.
func TestTickets(t *testing.T) {
	u := newUI(t, acts(mount(1, 0)), acts(mount(2, 0), mount(4, 0)), acts(mount(3, 0)))
	steps(t, u, api.OK, 1, 2)
	unmoved(t, u, api.ErrWait, 0)
	steps(t, u, api.OK, 2, 3, 3)
	unmoved(t, u, api.ErrWait, 0) // 2 and 3 are linked, 1 is not
	steps(t, u, api.OK, 1, 2, 0, 0, 0)
	looks(t, u, "0")
	steps(t, u, api.OK, 0)
	looks(t, u, "1", el(1, "c", 1), el(1, "c", 2), el(1, "c", 3))
	unmoved(t, u, api.ErrWait, 0)
	steps(t, u, api.OK, 2, 0, 0)
	looks(t, u, "2", el(1, "c", 1), el(1, "c", 2), el(1, "c", 3), el(1, "c", 4))
	told(t, u, nil, []api.Commit{{Upto: 3, Patches: 7}, {Upto: 4, Patches: 3}})
}

// TestGap: what is ahead of the ticket that is missing is taken out and committed, what is behind it waits.
func TestGap(t *testing.T) {
	u := newUI(t, acts(mount(1, 0)), acts(mount(2, 0)), acts(mount(3, 0)), acts(mount(4, 0)))
	steps(t, u, api.OK, 4, 3, 2, 1)       // tickets 1 to 4
	steps(t, u, api.OK, 1, 3, 4, 0, 0, 0) // 4, 2, 1 are linked: 1 and 2 are taken out and committed
	looks(t, u, "1", el(1, "c", 3), el(1, "c", 4))
	unmoved(t, u, api.ErrWait, 0)
	steps(t, u, api.OK, 2, 0, 0, 0)
	looks(t, u, "2", el(1, "c", 1), el(1, "c", 2), el(1, "c", 3), el(1, "c", 4))
	told(t, u, nil, []api.Commit{{Upto: 2, Patches: 5}, {Upto: 4, Patches: 5}})
}

// TestTicketOrder: updates are folded by their tickets, not in the order in which they are linked.
func TestTicketOrder(t *testing.T) {
	u := newUI(t, acts(mount(1, 0), push(1, 1)), acts(push(1, 2)), acts(push(1, 3)))
	steps(t, u, api.OK, 1, 1, 0, 0)
	steps(t, u, api.OK, 3, 1, 2, 2, 1, 3, 0, 0, 0, 0)
	looks(t, u, "2", el(1, "c", 1), el(2, "i", 103), tx(3, "3"), el(2, "i", 101), tx(3, "1"), el(2, "i", 102), tx(3, "2"))
}

// TestTakeAheadOfCommit: what is linked is taken out ahead of a commit, though the batch is not empty.
func TestTakeAheadOfCommit(t *testing.T) {
	u := newUI(t, acts(mount(1, 0), mount(2, 0), mount(3, 0)))
	steps(t, u, api.OK, 1, 1, 0, 1, 1, 0, 1) // mount(3, 0) has its ticket, and is not linked
	looks(t, u, "0")
	steps(t, u, api.OK, 0)
	looks(t, u, "1", el(1, "c", 1), el(1, "c", 2))
	unmoved(t, u, api.ErrWait, 0)
	steps(t, u, api.OK, 1, 0, 0)
	told(t, u, nil, []api.Commit{{Upto: 2, Patches: 5}, {Upto: 3, Patches: 3}})
}

// TestGenerations: an update takes with it the generation behind the last commit, by its first step.
func TestGenerations(t *testing.T) {
	one := el(1, "c", 1)
	for _, c := range []struct {
		name  string
		tasks [][]api.Op
		order []int
		want  []api.Node
	}{
		{"mounted in the same batch", [][]api.Op{acts(mount(1, 0), push(1, 5))}, []int{1, 1, 1, 1, 0, 0, 0}, list(one)},
		{"the mount is in the batch, not in a commit", [][]api.Op{acts(mount(1, 0), push(1, 5))}, []int{1, 1, 0, 1, 1, 0, 0}, list(one)},
		{"the first step is ahead of the commit, the second behind it", [][]api.Op{acts(mount(1, 0)), acts(push(1, 5))}, []int{1, 2, 1, 0, 0, 2, 0, 0}, list(one)},
		{"both are behind it", [][]api.Op{acts(mount(1, 0)), acts(push(1, 5))}, []int{1, 1, 0, 0, 2, 2, 0, 0}, list(one, el(2, "i", 105), tx(3, "5"))},
		{"unmounted and mounted between", [][]api.Op{acts(mount(1, 0), unmount(1), mount(1, 0)), acts(put(1, 1, 5))}, []int{1, 1, 0, 0, 1, 1, 1, 1, 2, 2, 0, 0, 0, 0}, list(one)},
		{"unmounted and mounted between, in commits of their own", [][]api.Op{acts(mount(1, 0), unmount(1), mount(1, 0)), acts(put(1, 1, 5))}, []int{1, 1, 0, 0, 1, 1, 1, 2, 0, 0, 1, 0, 0, 2, 0, 0}, list(one)},
		{"of the second generation", [][]api.Op{acts(mount(1, 0), unmount(1), mount(1, 0), put(1, 1, 5))}, []int{1, 1, 0, 0, 1, 1, 0, 0, 1, 1, 0, 0, 1, 1, 0, 0}, list(el(1, "c", 1, at("a", "5")))},
		{"unmounted when it took its ticket", [][]api.Op{acts(mount(1, 0), unmount(1), mount(1, 0), mount(2, 0)), acts(unmount(1))}, []int{1, 1, 0, 0, 1, 1, 0, 0, 1, 2, 1, 0, 2, 0, 0}, list(one)},
		{"an Unmount of the first generation", [][]api.Op{acts(mount(1, 0), unmount(1), mount(1, 0)), acts(unmount(1))}, []int{1, 1, 0, 0, 1, 1, 1, 1, 2, 2, 0, 0, 0, 0}, list(one)},
		{"two Unmounts", [][]api.Op{acts(mount(1, 0), unmount(1)), acts(unmount(1))}, []int{1, 1, 0, 0, 1, 1, 2, 2, 0, 0, 0}, nil},
		{"a Mount takes any with it", [][]api.Op{acts(mount(1, 0), unmount(1), mount(1, 0))}, []int{1, 1, 0, 0, 1, 1, 1, 1, 0, 0, 0}, list(one)},
		{"a Mount that was sent while it was mounted no more", [][]api.Op{acts(mount(1, 0), unmount(1)), acts(mount(1, 0))}, []int{1, 1, 0, 0, 1, 1, 0, 0, 2, 2, 0, 0}, list(one)},
		{"a Mount that is dropped makes no generation", [][]api.Op{acts(mount(1, 0), mount(1, 0)), acts(put(1, 3, 1))}, []int{1, 1, 0, 0, 2, 1, 2, 1, 0, 0, 0}, list(el(1, "c", 1, at("c", "1")))},
		{"of one within another that was unmounted", [][]api.Op{acts(mount(2, 0), mount(1, 2), unmount(2), mount(1, 0)), acts(put(1, 1, 5))}, []int{1, 1, 1, 1, 0, 0, 0, 1, 1, 1, 1, 2, 2, 0, 0, 0, 0}, list(one)},
	} {
		t.Run(c.name, func(t *testing.T) {
			b := newBothUI(t, c.tasks...)
			steps(t, after(t, c.tasks, c.order), api.ErrWait, 0)
			b.steps(t, c.order...)
			looks(t, b.u, strconv.Itoa(len(b.u.Commits())), c.want...)
		})
	}
}

// TestFlush: it waits for all that its task has sent, and for nothing else.
func TestFlush(t *testing.T) {
	u := newUI(t, acts(flush(), mount(1, 0), mount(2, 0), flush(), flush()), acts(mount(3, 0), flush()), acts(flush()))
	steps(t, u, api.OK, 2, 1) // what others have sent is not waited for
	steps(t, u, api.OK, 1, 1, 1, 1, 2, 0)
	unmoved(t, u, api.ErrWait, 1, 2) // the batch is no commit
	steps(t, u, api.OK, 3, 0)
	unmoved(t, u, api.ErrWait, 1, 2)
	steps(t, u, api.OK, 0)
	unmoved(t, u, api.ErrWait, 1, 2)
	steps(t, u, api.OK, 0, 1, 2, 1)
	unmoved(t, u, api.ErrDone, 1, 2, 3)
	told(t, u, []api.Event{
		{Task: 1, Kind: api.Flush}, {Task: 3, Kind: api.Flush},
		{Task: 1, Kind: api.Flush, Version: 1, Upto: 3}, {Task: 2, Kind: api.Flush, Version: 1, Upto: 3}, {Task: 1, Kind: api.Flush, Version: 1, Upto: 3},
	}, []api.Commit{{Upto: 3, Patches: 7}})
}

// TestFlushBetween: the last of a task's updates counts, in a commit that others share or not.
func TestFlushBetween(t *testing.T) {
	u := newUI(t, acts(mount(1, 0), put(1, 1, 1), flush()), acts(mount(2, 0), flush(), put(2, 1, 1)))
	steps(t, u, api.OK, 1, 1, 0, 0, 1, 2, 1) // 1 is in a commit, 2 is linked, 3 is not
	unmoved(t, u, api.ErrWait, 1)
	steps(t, u, api.OK, 0, 0, 1, 2)
	unmoved(t, u, api.ErrWait, 2)
	steps(t, u, api.OK, 0)
	unmoved(t, u, api.ErrWait, 2)
	steps(t, u, api.OK, 0, 2, 2, 2)
	told(t, u, []api.Event{{Task: 1, Kind: api.Flush, Version: 2, Upto: 2}, {Task: 2, Kind: api.Flush, Version: 3, Upto: 3}},
		[]api.Commit{{Upto: 1, Patches: 3}, {Upto: 2, Patches: 2}, {Upto: 3, Patches: 3}})
}

// TestFlushOfDropped: an update that was dropped is in a commit like any other.
func TestFlushOfDropped(t *testing.T) {
	u := newUI(t, acts(push(5, 5), flush()))
	steps(t, u, api.OK, 1, 1)
	unmoved(t, u, api.ErrWait, 1)
	steps(t, u, api.OK, 0, 0, 1)
	looks(t, u, "1")
	told(t, u, []api.Event{{Task: 1, Kind: api.Flush, Version: 1, Upto: 1}}, []api.Commit{{Upto: 1, Patches: 1}})
}

// TestRead: it never waits, and is told of the last commit.
func TestRead(t *testing.T) {
	u := newUI(t, acts(read(), mount(1, 0), read(), read(), push(1, 1), read(), flush(), read()))
	steps(t, u, api.OK, 1, 1, 1, 1, 0, 1, 0, 1, 1, 1)
	unmoved(t, u, api.ErrWait, 1)
	steps(t, u, api.OK, 0, 0, 1, 1)
	told(t, u, []api.Event{
		{Task: 1, Kind: api.Read}, {Task: 1, Kind: api.Read}, {Task: 1, Kind: api.Read},
		{Task: 1, Kind: api.Read, Version: 1, Upto: 1},
		{Task: 1, Kind: api.Flush, Version: 2, Upto: 2}, {Task: 1, Kind: api.Read, Version: 2, Upto: 2},
	}, []api.Commit{{Upto: 1, Patches: 3}, {Upto: 2, Patches: 5}})
}
