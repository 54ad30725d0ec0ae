package ui

import (
	"batten/api"
	"batten/component"
)

// mayBe tells whether an act may be one of a task's.
func mayBe(a api.Op) bool {
	if a != needed(a) {
		return false
	}
	if a.Kind == api.Flush || a.Kind == api.Read {
		return true
	}
	return isUpTo(a.Name, 1, api.MaxNames) && restMayBe(a)
}

// needed is the act with only what its kind needs.
func needed(a api.Op) api.Op {
	b := api.Op{Kind: a.Kind, Name: a.Name}
	switch a.Kind {
	case api.Mount:
		b.Parent = a.Parent
	case api.Put, api.Add:
		b.Field, b.N = a.Field, a.N
	case api.Push, api.Pull:
		b.N = a.N
	case api.Swap:
		b.N, b.M = a.N, a.M
	case api.Flush, api.Read:
		b.Name = 0
	}
	return b
}

// restMayBe looks at what an update needs beside its name.
func restMayBe(a api.Op) bool {
	switch a.Kind {
	case api.Mount:
		return isUpTo(a.Parent, 0, api.MaxNames) && a.Parent != a.Name
	case api.Unmount:
		return true
	case api.Put, api.Add:
		return isUpTo(a.Field, 1, component.Fields)
	case api.Push, api.Pull:
		return isUpTo(a.N, 0, component.Greatest)
	case api.Swap:
		return a.N >= 0 && a.M >= 0
	}
	return false
}

func isUpTo(n, least, most int) bool { return n >= least && n <= most }
