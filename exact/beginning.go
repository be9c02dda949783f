package exact

import (
	"slices"

	"haulier/api"
	"haulier/load"
)

// key is what two beginnings must have alike, so that each can go on as the other can.
type key struct {
	done   uint64
	place  int
	breaks int
}

// beginning is how a route may begin, its breaks set in, up to where one leaves a visit, a break or the start.
type beginning struct {
	key
	// What it was ahead of its last visit (a break too); of the start nil.
	was   *beginning
	visit api.Visit
	// When one leaves, and what the way has cost.
	leave, cost int
	// How many tasks have begun, and what they bring.
	tasks, value int
	// What was brought from the start on for the jobs that are done; and what is aboard now, and was at most, more than what was brought for all: how much that was hangs on the jobs still to come.
	brought, aboard, peak []int
}

// serves: is it in nothing worse than one with the same key? Then whatever makes that one whole makes this one whole, for no more.
func (b *beginning) serves(c *beginning) bool {
	return b.leave <= c.leave && b.cost <= c.cost && load.Under(b.peak, c.peak)
}

// visits: the task visits, in their order.
func (b *beginning) visits() []api.Visit {
	var list []api.Visit
	for ; b != nil; b = b.was {
		if b.visit.Kind != api.AtBreak && b.was != nil {
			list = append(list, b.visit)
		}
	}
	slices.Reverse(list)
	return list
}
