package judge_test

import (
	"slices"

	"haulier/api"
)

// What this file reckons, it reckons by the document's words alone: it asks no other layer.

// sooner: the first time from this one on within a window, asked time by time; the drawn windows all end ahead of 400.
func sooner(l []api.Window, from int) (int, bool) {
	for at := from; at < 400; at++ {
		if slices.ContainsFunc(l, func(w api.Window) bool { return w.From <= at && at <= w.To }) {
			return at, true
		}
	}
	return 0, false
}

// paired: are all but breaks visits of tasks that are there, none twice, each pickup ahead of its delivery?
func paired(p api.Problem, visits []api.Visit) bool {
	where := func(v api.Visit) int { return slices.Index(visits, v) }
	for i, v := range visits {
		count := 0
		switch v.Kind {
		case api.AtBreak:
			continue
		case api.AtJob:
			count = len(p.Jobs)
		case api.AtPickup:
			count = len(p.Shipments)
			if where(delivery(v.Item)) < i {
				return false
			}
		case api.AtDelivery:
			count = len(p.Shipments)
			if at := where(pickup(v.Item)); at < 0 || at > i {
				return false
			}
		}
		if v.Item < 0 || v.Item >= count || where(v) != i {
			return false
		}
	}
	return true
}

// wants: how many tasks there are in a list, and all skills that they want.
func wants(p api.Problem, visits []api.Visit) (int, uint64) {
	tasks, skills := 0, uint64(0)
	for _, v := range visits {
		switch v.Kind {
		case api.AtJob:
			tasks++
			skills |= p.Jobs[v.Item].Skills
		case api.AtPickup:
			tasks++
			skills |= p.Shipments[v.Item].Skills
		}
	}
	return tasks, skills
}

// aboard: the loads of a list, each summed from its beginning on; of a list whose visits are all there.
func aboard(p api.Problem, visits []api.Visit) [][]int {
	var all [][]int
	for n := range len(visits) + 1 {
		l := make([]int, p.Dims)
		for d := range l {
			for i, v := range visits {
				done := i < n
				switch {
				case v.Kind == api.AtJob && !done:
					l[d] += p.Jobs[v.Item].Drop[d]
				case v.Kind == api.AtJob:
					l[d] += p.Jobs[v.Item].Pick[d]
				case v.Kind == api.AtPickup && done:
					l[d] += p.Shipments[v.Item].Amount[d]
				case v.Kind == api.AtDelivery && done:
					l[d] -= p.Shipments[v.Item].Amount[d]
				}
			}
		}
		all = append(all, l)
	}
	return all
}

// stopAt: a visit's stop, the vehicle being at this place.
func stopAt(p api.Problem, car api.Vehicle, v api.Visit, here int) api.Stop {
	switch v.Kind {
	case api.AtJob:
		return p.Jobs[v.Item].Stop
	case api.AtPickup:
		return p.Shipments[v.Item].Pickup
	case api.AtDelivery:
		return p.Shipments[v.Item].Delivery
	}
	return api.Stop{Place: here, Service: car.Breaks[v.Item].Service, Windows: car.Breaks[v.Item].Windows}
}

// unfit: the first of the errors up to ErrLoad of a list with breaks.
func unfit(p api.Problem, vehicle int, visits []api.Visit) api.Errno {
	if vehicle < 0 || vehicle >= len(p.Vehicles) {
		return api.ErrVehicle
	}
	if !paired(p, visits) {
		return api.ErrVisit
	}
	car := p.Vehicles[vehicle]
	next := 0
	for _, v := range visits {
		if v.Kind == api.AtBreak {
			if v.Item != next {
				return api.ErrBreak
			}
			next++
		}
	}
	if next != len(car.Breaks) {
		return api.ErrBreak
	}
	tasks, skills := wants(p, visits)
	if skills|car.Skills != car.Skills {
		return api.ErrSkill
	}
	if tasks > car.MaxTasks {
		return api.ErrTasks
	}
	for _, l := range aboard(p, visits) {
		for d := range l {
			if l[d] > car.Cap[d] {
				return api.ErrLoad
			}
		}
	}
	return api.OK
}

// planned: what chapter 13 makes of a vehicle and its visits, breaks among them.
func planned(p api.Problem, vehicle int, visits []api.Visit) (api.Plan, api.Errno) {
	if e := unfit(p, vehicle, visits); e != api.OK {
		return api.Plan{}, e
	}
	car, loads := p.Vehicles[vehicle], aboard(p, visits)
	x := api.Plan{Vehicle: vehicle, Steps: []api.Step{{Visit: start(), Place: car.Start, Arrival: car.Shift.From, Load: loads[0]}}}
	left, late := car.Shift.From, false
	for i, v := range append(slices.Clone(visits), end()) {
		last := x.Steps[i]
		stop := api.Stop{Place: car.End}
		if i < len(visits) {
			stop = stopAt(p, car, v, last.Place)
		}
		time, dist := p.Time.Cells[last.Place*p.Time.N+stop.Place], p.Dist.Cells[last.Place*p.Dist.N+stop.Place]
		if time == -1 || dist == -1 {
			return api.Plan{}, api.ErrTravel
		}
		step := api.Step{Visit: v, Place: stop.Place, Arrival: left + time, Load: loads[min(i+1, len(visits))], Time: last.Time + time, Dist: last.Dist + dist}
		if i < len(visits) {
			begin, there := sooner(stop.Windows, step.Arrival)
			late = late || !there
			step.Wait, step.Service = begin-step.Arrival, stop.Service
			left = begin + stop.Service
		} else {
			late = late || step.Arrival > car.Shift.To
		}
		x.Steps = append(x.Steps, step)
		x.Time, x.Dist, x.Wait, x.Service = step.Time, step.Dist, x.Wait+step.Wait, x.Service+step.Service
	}
	if late {
		return api.Plan{}, api.ErrTime
	}
	x.Cost = car.Fixed + x.Time*car.PerTime + x.Dist*car.PerDist
	return x, api.OK
}

// settings: all lists of the visits with so many breaks set in, those that stand farthest ahead first.
func settings(visits []api.Visit, breaks int) [][]api.Visit {
	all := [][]api.Visit{visits}
	for i := range breaks {
		var more [][]api.Visit
		for _, l := range all {
			// The first break may stand ahead of all: there is no break -1, and its place is -1 then.
			for n := slices.Index(l, pause(i-1)) + 1; n <= len(l); n++ {
				more = append(more, slices.Insert(slices.Clone(l), n, pause(i)))
			}
		}
		all = more
	}
	return all
}

// fitted: what chapter 13 makes of a vehicle and its task visits.
func fitted(p api.Problem, vehicle int, visits []api.Visit) (api.Plan, api.Errno) {
	switch {
	case vehicle < 0 || vehicle >= len(p.Vehicles):
		return api.Plan{}, api.ErrVehicle
	case slices.ContainsFunc(visits, func(v api.Visit) bool { return v.Kind == api.AtBreak }):
		return api.Plan{}, api.ErrBreak
	}
	for _, l := range settings(visits, len(p.Vehicles[vehicle].Breaks)) {
		if x, e := planned(p, vehicle, l); e != api.ErrTime {
			return x, e
		}
	}
	return api.Plan{}, api.ErrTime
}

// judged: what chapter 20 says of a solution: the first wrong route and its error, or the plans of all.
func judged(p api.Problem, s api.Solution) ([]api.Plan, int, api.Errno) {
	var plans []api.Plan
	for i, x := range s.Routes {
		ahead := s.Routes[:i]
		switch {
		case x.Vehicle < 0 || x.Vehicle >= len(p.Vehicles):
			return nil, i, api.ErrVehicle
		case slices.ContainsFunc(ahead, func(y api.Route) bool { return y.Vehicle == x.Vehicle }):
			return nil, i, api.ErrVehicle
		case i > 0 && x.Vehicle < ahead[i-1].Vehicle:
			return nil, i, api.ErrVehicle
		case len(x.Visits) == 0:
			return nil, i, api.ErrEmpty
		}
		plan, e := fitted(p, x.Vehicle, x.Visits)
		if e != api.OK {
			return nil, i, e
		}
		for _, y := range ahead {
			for _, v := range y.Visits {
				if slices.Contains(x.Visits, v) {
					return nil, i, api.ErrTwice
				}
			}
		}
		plans = append(plans, plan)
	}
	return plans, -1, api.OK
}

// summed: the sums of a right solution with these plans.
func summed(p api.Problem, plans []api.Plan) api.Sums {
	x := api.Sums{Routes: len(plans), Left: len(p.Jobs) + len(p.Shipments)}
	for _, plan := range plans {
		x.Cost += plan.Cost
		x.Time += plan.Time
		x.Dist += plan.Dist
		x.Wait += plan.Wait
		x.Service += plan.Service
		for _, step := range plan.Steps {
			switch step.Visit.Kind {
			case api.AtJob:
				x.Value += p.Jobs[step.Visit.Item].Priority
				x.Left--
			case api.AtDelivery:
				x.Value += p.Shipments[step.Visit.Item].Priority
				x.Left--
			}
		}
	}
	return x
}
