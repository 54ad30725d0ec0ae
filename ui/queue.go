package ui

import (
	"slices"

	"batten/api"
)

// update is an act on its way to the components.
type update struct {
	act                api.Op
	ticket, generation int
}

// room is for as many updates as can be linked at a time.
const room = api.MaxTasks * api.MaxOps

// queue gives out tickets, and holds what is linked and not yet taken out, by
// rising tickets.
type queue struct {
	given, taken int
	linked       []update
}

func (q *queue) ticket() int {
	q.given++
	return q.given
}

// link finds the place of an update: tasks that took their tickets earlier may
// link later.
func (q *queue) link(up update) {
	at, _ := slices.BinarySearchFunc(q.linked, up.ticket, func(other update, ticket int) int {
		return other.ticket - ticket
	})
	q.linked = slices.Insert(q.linked, at, up)
}

// pour moves to a channel what can be taken out one by one: all that is linked,
// up to the first ticket that is missing.
func (q *queue) pour() chan update {
	row := make(chan update, room)
	for len(q.linked) > 0 && q.linked[0].ticket == q.taken+len(row)+1 {
		row <- q.linked[0]
		q.linked = q.linked[1:]
	}
	return row
}

// pourBack takes back what was left in the channel.
func (q *queue) pourBack(row chan update) {
	close(row)
	var left []update
	for up := range row {
		left = append(left, up)
	}
	q.linked = append(left, q.linked...)
}
