package ask

import (
	"haulier/api"
	"haulier/hours"
	"haulier/skill"
)

// The greatest priority, and the one of a task that tells none.
const (
	mostPriority = 100
	ownPriority  = 1
)

// always is the window of all times.
var always = api.Window{From: 0, To: api.MaxNumber}

// sizes: how many places and dimensions there are.
type sizes struct{ places, dims int }

// vehicle: a vehicle, field by field. (Here and below calls go in the order of the fields, which is that of the checks.)
func (s sizes) vehicle(n node) api.Vehicle {
	n.object("start", "end", "capacity", "skills", "shift", "fixed", "per_time", "per_dist", "max_tasks", "breaks")
	return api.Vehicle{
		Start:    n.must("start").place(s.places),
		End:      n.must("end").place(s.places),
		Cap:      s.amounts(n.field("capacity")),
		Skills:   skills(n.field("skills")),
		Shift:    shift(n.field("shift")),
		Fixed:    n.field("fixed").numberOr(api.MaxNumber, 0),
		PerTime:  n.field("per_time").numberOr(api.MaxNumber, 1),
		PerDist:  n.field("per_dist").numberOr(api.MaxNumber, 0),
		MaxTasks: n.field("max_tasks").numberOr(api.MaxTasks, api.MaxTasks),
		Breaks:   each(n.field("breaks").atMost(api.MaxBreaks), pause),
	}
}

// pause: a break.
func pause(n node) api.Break {
	n.object("windows", "service")
	return api.Break{
		Windows: windows(n.field("windows")),
		Service: service(n),
	}
}

// job: a task of one visit.
func (s sizes) job(n node) api.Job {
	n.object("place", "service", "windows", "drop", "pick", "skills", "priority")
	return api.Job{
		Stop:     s.stop(n),
		Drop:     s.amounts(n.field("drop")),
		Pick:     s.amounts(n.field("pick")),
		Skills:   skills(n.field("skills")),
		Priority: priority(n),
	}
}

// shipment: a task of two visits.
func (s sizes) shipment(n node) api.Shipment {
	n.object("pickup", "delivery", "amount", "skills", "priority")
	return api.Shipment{
		Pickup:   s.half(n.must("pickup")),
		Delivery: s.half(n.must("delivery")),
		Amount:   s.amounts(n.field("amount")),
		Skills:   skills(n.field("skills")),
		Priority: priority(n),
	}
}

// half: the stop of a pickup or a delivery.
func (s sizes) half(n node) api.Stop {
	n.object("place", "service", "windows")
	return s.stop(n)
}

// stop: the fields of a stop, of an object that has others too.
func (s sizes) stop(n node) api.Stop {
	return api.Stop{
		Place:   n.must("place").place(s.places),
		Service: service(n),
		Windows: windows(n.field("windows")),
	}
}

// service, priority: the fields of these names.
func service(n node) int  { return n.field("service").numberOr(api.MaxNumber, 0) }
func priority(n node) int { return n.field("priority").numberOr(mostPriority, ownPriority) }

// amounts: a number for each dimension; nothing, if they aren't there.
func (s sizes) amounts(n node) []int {
	if !n.there() {
		return make([]int, s.dims)
	}
	return each(n.just(s.dims), func(n node) int { return n.number(0, api.MaxNumber) })
}

// skills: a set from a list of its skills.
func skills(n node) uint64 {
	l := n.atMost(api.MaxSkill)
	set, at, e := skill.Of(each(l, func(n node) int { return n.number(0, api.MaxSkill-1) }))
	if e != api.OK {
		l[at].fail(e)
	}
	return set
}

// windows: one or more, each behind the one ahead; all times, if they aren't there.
func windows(n node) []api.Window {
	if !n.there() {
		return []api.Window{always}
	}
	l := n.atMost(api.MaxWindows)
	if len(l) == 0 {
		n.fail(api.ErrSize)
	}
	w := each(l, window)
	if at, e := hours.Check(w); e != api.OK {
		l[at].fail(e)
	}
	return w
}

// shift: a window; all times, if it isn't there.
func shift(n node) api.Window {
	if !n.there() {
		return always
	}
	return window(n)
}

// window: from a time to the same or a later one.
func window(n node) api.Window {
	l := n.just(2)
	w := api.Window{From: l[0].number(0, api.MaxNumber), To: l[1].number(0, api.MaxNumber)}
	if w.From > w.To {
		n.fail(api.ErrRange)
	}
	return w
}
