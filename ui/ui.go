// Package ui lets tasks send updates of components through a queue, and keeps
// the document in step with them.
package ui

import (
	"slices"

	"batten/api"
	"batten/component"
	"batten/dom"
)

// UI is tasks, their queue, components, and the document.
type UI struct {
	tasks      []task
	queue      queue
	batch      []update
	components component.Set
	doc        *dom.Doc
	events     []api.Event
	commits    []api.Commit
}

// task is the acts that one has yet to do, and how far it is.
type task struct {
	acts []api.Op
	half *update // has its ticket, and is not linked yet
	sent int     // the ticket of its last update
}

// New makes a UI of the acts of its tasks.
func New(tasks [][]api.Op) (*UI, api.Errno, int) {
	if isMany(tasks) {
		return nil, api.ErrMany, 0
	}
	for i, acts := range tasks {
		for _, a := range acts {
			if !mayBe(a) {
				return nil, api.ErrOp, i + 1
			}
		}
	}
	u := &UI{}
	for _, acts := range tasks {
		// Not slices.Clone: of an empty list that would keep the spare room.
		u.tasks = append(u.tasks, task{acts: append([]api.Op(nil), acts...)})
	}
	// What is to be seen is always a tree: no error to ask for.
	u.doc, _, _ = dom.New(u.components.Tree(u.version()))
	return u, api.OK, 0
}

func isMany(tasks [][]api.Op) bool {
	return len(tasks) > api.MaxTasks || slices.ContainsFunc(tasks, func(acts []api.Op) bool {
		return len(acts) > api.MaxOps
	})
}

// version needs no count of its own: each commit makes it one more.
func (u *UI) version() int { return len(u.commits) }

// upto is the ticket up to which all updates are in a commit.
func (u *UI) upto() int {
	if len(u.commits) == 0 {
		return 0
	}
	return u.commits[len(u.commits)-1].Upto
}

// Tree tells the document as a tree.
func (u *UI) Tree() []api.Node { return u.doc.Tree() }

// IDs tells the numbers of its nodes.
func (u *UI) IDs() []int { return u.doc.IDs() }

// Events tells what the tasks were told.
func (u *UI) Events() []api.Event { return slices.Clone(u.events) }

// Commits tells what was committed.
func (u *UI) Commits() []api.Commit { return slices.Clone(u.commits) }
