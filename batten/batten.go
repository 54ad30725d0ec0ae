// Package batten: a document kept in step with what several tasks do: see DOC.md.
package batten

import (
	"batten/api"
	"batten/dom"
	"batten/tree"
	"batten/ui"
)

// Check looks at a tree (P3).
func Check(l []api.Node) (api.Errno, int) { return tree.Check(l) }

// Dom is a document.
type Dom struct{ doc *dom.Doc }

// NewDom makes one of a tree (P4).
func NewDom(l []api.Node) (*Dom, api.Errno, int) {
	doc, no, at := dom.New(l)
	if no != api.OK {
		return nil, no, at
	}
	return &Dom{doc}, api.OK, 0
}

// Tree tells the document as a tree (P4).
func (d *Dom) Tree() []api.Node { return d.doc.Tree() }

// IDs tells the numbers of its nodes (P4).
func (d *Dom) IDs() []int { return d.doc.IDs() }

// Loose tells how many nodes stand nowhere (P4).
func (d *Dom) Loose() int { return d.doc.Loose() }

// Apply does patches (P5).
func (d *Dom) Apply(l ...api.Patch) (api.Errno, int) { return d.doc.Apply(l...) }

// Diff tells the patches to another tree (P6).
func (d *Dom) Diff(l []api.Node) ([]api.Patch, api.Errno, int) { return d.doc.Diff(l) }

// UI is tasks, their queue, components, and the document.
type UI struct{ ui *ui.UI }

// NewUI makes one (P7).
func NewUI(tasks [][]api.Op) (*UI, api.Errno, int) {
	made, no, at := ui.New(tasks)
	if no != api.OK {
		return nil, no, at
	}
	return &UI{made}, api.OK, 0
}

// Step lets a task do its next step (P8).
func (u *UI) Step(task int) api.Errno { return u.ui.Step(task) }

// Tree tells the document as a tree (P9).
func (u *UI) Tree() []api.Node { return u.ui.Tree() }

// IDs tells the numbers of its nodes (P9).
func (u *UI) IDs() []int { return u.ui.IDs() }

// Events tells what the tasks were told (P9).
func (u *UI) Events() []api.Event { return u.ui.Events() }

// Commits tells what was committed (P9).
func (u *UI) Commits() []api.Commit { return u.ui.Commits() }
