package exact

import (
	"haulier/api"
	"haulier/load"
	"haulier/model"
	"haulier/skill"
)

// errand is a visit that the vehicle may make.
type errand struct {
	visit api.Visit
	stop  api.Stop
	// The bits of the errands that must be done ahead: of a delivery its pickup.
	ahead uint64
	// How many tasks begin with it, and what they bring: with a delivery none.
	tasks, value int
	// What is aboard for it from the start on, and by how much it changes what is aboard.
	drop, change []int
}

// errands: the visits of all tasks for which the vehicle has the skills. The one at a place is told by the bit of that place.
func errands(p api.Problem, car api.Vehicle) []errand {
	var list []errand
	for _, t := range model.Tasks(p) {
		if !skill.Covers(car.Skills, model.Skills(p, t)) {
			continue
		}
		if t.Ship {
			list = append(list, pickup(p, t.Item), delivery(p, t.Item, bit(len(list))))
		} else {
			list = append(list, job(p, t.Item))
		}
	}
	return list
}

// job: a job as an errand.
func job(p api.Problem, i int) errand {
	j := p.Jobs[i]
	visit := api.Visit{Kind: api.AtJob, Item: i}
	return errand{visit: visit, stop: j.Stop, tasks: 1, value: j.Priority, drop: j.Drop, change: made(load.Sub, j.Pick, j.Drop)}
}

// pickup: a shipment's pickup as an errand.
func pickup(p api.Problem, i int) errand {
	s := p.Shipments[i]
	visit := api.Visit{Kind: api.AtPickup, Item: i}
	return errand{visit: visit, stop: s.Pickup, tasks: 1, value: s.Priority, drop: load.Zero(p.Dims), change: s.Amount}
}

// delivery: a shipment's delivery as an errand, behind its pickup.
func delivery(p api.Problem, i int, ahead uint64) errand {
	s := p.Shipments[i]
	visit := api.Visit{Kind: api.AtDelivery, Item: i}
	none := load.Zero(p.Dims)
	return errand{visit: visit, stop: s.Delivery, ahead: ahead, drop: none, change: made(load.Sub, none, s.Amount)}
}

// bit: the one that tells of the errand at this place.
func bit(i int) uint64 { return 1 << i }

// made: what a sum makes of two amounts. (Those of a problem are far too small for an error.)
func made(sum func(a, b []int) ([]int, api.Errno), a, b []int) []int {
	n, _ := sum(a, b)
	return n
}
