package batten_test

import (
	"math"
	"math/rand"
	"slices"
	"testing"

	"batten/api"
)

// follows: what P10 says of a UI at any time.
func (b *bothUI) follows(t *testing.T) {
	t.Helper()
	last := api.Commit{}
	for _, c := range b.u.Commits() {
		if c.Upto <= last.Upto || c.Patches < 1 {
			t.Fatalf("P10: Commits() = %v", b.u.Commits())
		}
		last = c
	}
	told := make([]api.Event, len(b.m.tasks)+1)
	for _, e := range b.u.Events() {
		if e.Version < told[e.Task].Version || e.Upto < told[e.Task].Upto {
			t.Fatalf("P10: Events() = %v", b.u.Events())
		}
		told[e.Task] = e
	}
}

// flushed: that a Flush which has just been told has all that its task sent (P10).
func (b *bothUI) flushed(t *testing.T, events int) {
	t.Helper()
	l := b.u.Events()
	if len(l) == events || l[events].Kind != api.Flush {
		return
	}
	for i, s := range b.m.sent {
		if s.task == l[events].Task && i+1 > l[events].Upto {
			t.Fatalf("P10: %v: a Flush is told %v, and ticket %d is not in it", b.m.tasks, l[events], i+1)
		}
	}
}

// TestAllOrders: every order in which these tasks and the render task can step.
func TestAllOrders(t *testing.T) {
	for _, tasks := range [][][]api.Op{
		{acts(mount(1, 0), flush(), push(1, 5)), acts(push(1, 6), read())},
		{acts(mount(1, 0), push(1, 5)), acts(mount(1, 0), unmount(1))},
		{acts(mount(1, 0)), acts(mount(2, 1)), acts(unmount(1))},
	} {
		ends := 0
		var each func(done []int)
		each = func(done []int) {
			any := false
			for k := range len(tasks) + 1 {
				m := newPlainUI(tasks)
				for _, d := range done {
					m.step(d)
				}
				if m.step(k) == api.OK {
					any = true
					each(append(slices.Clone(done), k))
				}
			}
			if !any {
				ends++
				b := newBothUI(t, tasks...)
				b.steps(t, done...)
				b.follows(t)
			}
		}
		each(nil)
		if ends < 500 {
			t.Errorf("only %d orders: too few to tell much", ends)
		}
	}
}

// anyAct: of few components with few numbers, so that they meet.
func anyAct(r *rand.Rand) api.Op {
	name, field := 1+r.Intn(3)*r.Intn(3), 1+r.Intn(3)
	pick := func(l ...int) int { return l[r.Intn(len(l))] }
	switch r.Intn(18) {
	case 0, 1, 2:
		return mount(name, pick(0, 0, name%5+1))
	case 4:
		return unmount(name)
	case 5:
		return put(name, field, pick(0, 1, -1, math.MinInt, math.MaxInt, r.Int()))
	case 6:
		return add(name, field, pick(0, 1, -1, math.MinInt, math.MaxInt, -r.Int()))
	case 3, 7, 8, 9, 10:
		return push(name, pick(0, 30, r.Intn(3)))
	case 11, 12:
		return pull(name, pick(0, 30, r.Intn(3)))
	case 13, 14:
		return swap(name, pick(r.Intn(9), r.Int()), pick(r.Intn(9), math.MaxInt))
	case 15, 16:
		return flush()
	}
	return read()
}

// TestRunsDrawn: tasks of all forms, which step in any order; now and then the render task alone.
func TestRunsDrawn(t *testing.T) {
	r := rand.New(rand.NewSource(8))
	does, drops := map[int]int{}, map[int]int{}
	for range 1200 {
		tasks := make([][]api.Op, 1+r.Intn(4))
		for i := range tasks {
			for range r.Intn(13) {
				tasks[i] = append(tasks[i], anyAct(r))
			}
		}
		b := newBothUI(t, tasks...)
		eager := 1 + r.Intn(9)
		for slices.ContainsFunc(upTo(len(tasks)), func(k int) bool { return b.m.done[k-1] < len(tasks[k-1]) }) {
			b.step(t, r.Intn(len(tasks)+1))
			for range r.Intn(eager) {
				b.step(t, 0)
			}
		}
		for b.step(t, 0) == api.OK {
		}
		b.follows(t)
		for kind := range 10 {
			does[kind] += b.m.does[kind]
			drops[kind] += b.m.drops[kind]
		}
	}
	for kind := api.Mount; kind <= api.Swap; kind++ {
		if does[kind] < 50 || drops[kind] < 50 {
			t.Errorf("kind %d: %d were folded, %d dropped: too few to tell much", kind, does[kind], drops[kind])
		}
	}
}

// TestMostOfAll: 4 tasks with 12 acts each, which mount all names and fill a list.
func TestMostOfAll(t *testing.T) {
	var all []api.Op
	for name := 1; name <= 20; name++ {
		parent := name - 1
		if parent%5 == 0 {
			parent = 0
		}
		all = append(all, mount(name, parent))
	}
	for n := range 28 {
		all = append(all, push(n%3*9+1, n))
	}
	b := folded(t, all...)
	if n := len(b.u.Tree()); n != 1+20+2*24 {
		t.Errorf("P9: Tree() has %d nodes: %v", n, b.u.Tree())
	}
	for k := 1; k <= 4; k++ {
		steps(t, b.u, api.ErrDone, k)
	}
	steps(t, b.u, api.ErrTask, 5)
	steps(t, b.u, api.ErrWait, 0)
}
