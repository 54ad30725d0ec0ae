package ui

import "batten/api"

// Step lets a task do its next step; task 0 is the render task.
func (u *UI) Step(number int) api.Errno {
	if number < 0 || number > len(u.tasks) {
		return api.ErrTask
	}
	if number == 0 {
		return u.render()
	}
	t := &u.tasks[number-1]
	if len(t.acts) == 0 {
		return api.ErrDone
	}
	switch kind := t.acts[0].Kind; kind {
	case api.Flush, api.Read:
		return u.tell(t, number, kind)
	default:
		u.send(t)
		return api.OK
	}
}

// tell lets a Flush wait for all that its task has sent.
func (u *UI) tell(t *task, number, kind int) api.Errno {
	if kind == api.Flush && t.sent > u.upto() {
		return api.ErrWait
	}
	u.events = append(u.events, api.Event{Task: number, Kind: kind, Version: u.version(), Upto: u.upto()})
	t.acts = t.acts[1:]
	return api.OK
}

// send does the first step of an update, or the second one.
func (u *UI) send(t *task) {
	if t.half == nil {
		act := t.acts[0]
		t.sent = u.queue.ticket()
		t.half = &update{act, t.sent, u.components.Generation(act.Name)}
		return
	}
	u.queue.link(*t.half)
	t.half = nil
	t.acts = t.acts[1:]
}

// render takes out the next update, if there is one, and commits otherwise.
func (u *UI) render() api.Errno {
	row := u.queue.pour()
	defer u.queue.pourBack(row)
	select {
	case up := <-row:
		u.queue.taken = up.ticket
		u.batch = append(u.batch, up)
		return api.OK
	default:
		return u.commit()
	}
}

func (u *UI) commit() api.Errno {
	if len(u.batch) == 0 {
		return api.ErrWait
	}
	for _, up := range u.batch {
		u.components.Fold(up.act, up.generation)
	}
	u.batch = nil
	// What is to be seen is always a tree with the same root, and a small one:
	// no error to ask for.
	patches, _, _ := u.doc.Diff(u.components.Tree(u.version() + 1))
	u.doc.Apply(patches...)
	u.commits = append(u.commits, api.Commit{Upto: u.queue.taken, Patches: len(patches)})
	return api.OK
}
