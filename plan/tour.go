package plan

import (
	"slices"

	"haulier/api"
	"haulier/hours"
	"haulier/load"
	"haulier/model"
	"haulier/skill"
)

// tour is a list of visits, breaks among them, for a vehicle; anything may be wrong with it.
type tour struct {
	p       api.Problem
	vehicle int
	visits  []api.Visit
}

// check is what must hold of a tour, and the error if it doesn't.
type check struct {
	holds func(tour) bool
	e     api.Errno
}

// checks: in the order in which errors are told. Each may lean on it that those ahead hold.
func checks() []check {
	return []check{
		{tour.manned, api.ErrVehicle},
		{tour.whole, api.ErrVisit},
		{tour.rested, api.ErrBreak},
		{tour.able, api.ErrSkill},
		{tour.small, api.ErrTasks},
		{tour.light, api.ErrLoad},
		{tour.linked, api.ErrTravel},
		{tour.timely, api.ErrTime},
	}
}

// manned: is there such a vehicle?
func (t tour) manned() bool { return 0 <= t.vehicle && t.vehicle < len(t.p.Vehicles) }

// whole: are all but the breaks visits of tasks that are there, and of each of these tasks just its visits, in their order?
func (t tour) whole() bool {
	stood := map[api.Task]int{}
	for _, v := range t.visits {
		if isBreak(v) {
			continue
		}
		if !isThere(t.p, v) {
			return false
		}
		task, _ := model.Of(v)
		wanted, n := model.Visits(task), stood[task]
		if n == len(wanted) || v != wanted[n] {
			return false
		}
		stood[task]++
	}
	for task, n := range stood {
		if n < len(model.Visits(task)) {
			return false
		}
	}
	return true
}

// rested: are the breaks just all of the vehicle's, in their order?
func (t tour) rested() bool {
	next := 0
	for _, v := range t.visits {
		if !isBreak(v) {
			continue
		}
		if v.Item != next {
			return false
		}
		next++
	}
	return next == len(t.car().Breaks)
}

// able: has the vehicle the skills that its tasks want?
func (t tour) able() bool {
	for _, task := range t.tasks() {
		if !skill.Covers(t.car().Skills, model.Skills(t.p, task)) {
			return false
		}
	}
	return true
}

// small: are there no more tasks than the vehicle takes?
func (t tour) small() bool { return len(t.tasks()) <= t.car().MaxTasks }

// light: does the vehicle hold what is aboard, all the way?
func (t tour) light() bool {
	for _, aboard := range Loads(t.p, t.visits) {
		if !load.Under(aboard, t.car().Cap) {
			return false
		}
	}
	return true
}

// linked: does a way lead from each stop to the next one?
func (t tour) linked() bool {
	stops := t.stops()
	for i := range stops {
		if travel(t.p.Time, stops, i) < 0 || travel(t.p.Dist, stops, i) < 0 {
			return false
		}
	}
	return true
}

// timely: does each visit have a start, and is the end come to within the shift?
func (t tour) timely() bool {
	stops, left := t.stops(), t.car().Shift.From
	for i, s := range stops {
		_, next, there := stay(s, left+travel(t.p.Time, stops, i))
		if !there {
			return false
		}
		left = next
	}
	return true
}

// plan: of a tour with which nothing is wrong.
func (t tour) plan() api.Plan {
	stops, visits, loads := t.stops(), t.points(), t.loads()
	x := api.Plan{Vehicle: t.vehicle, Steps: make([]api.Step, 0, len(stops))}
	left := t.car().Shift.From
	for i, s := range stops {
		time := travel(t.p.Time, stops, i)
		arrival := left + time
		start, next, _ := stay(s, arrival)
		x.Time += time
		x.Dist += travel(t.p.Dist, stops, i)
		x.Wait += start - arrival
		x.Service += s.Service
		x.Steps = append(x.Steps, api.Step{
			Visit: visits[i], Place: s.Place,
			Arrival: arrival, Wait: start - arrival, Service: s.Service,
			Load: loads[i], Time: x.Time, Dist: x.Dist,
		})
		left = next
	}
	// At most MaxVisits + 1 ways of at most MaxNumber times MaxPlaces, times MaxNumber: far from MaxBig.
	x.Cost = t.car().Fixed + x.Time*t.car().PerTime + x.Dist*t.car().PerDist
	return x
}

// car: the vehicle, which must be there.
func (t tour) car() api.Vehicle { return t.p.Vehicles[t.vehicle] }

// tasks: those of the jobs and the pickups.
func (t tour) tasks() []api.Task {
	var tasks []api.Task
	for _, v := range t.visits {
		if v.Kind == api.AtJob || v.Kind == api.AtPickup {
			task, _ := model.Of(v)
			tasks = append(tasks, task)
		}
	}
	return tasks
}

// points: the start, the visits, the end.
func (t tour) points() []api.Visit {
	return slices.Concat([]api.Visit{{Kind: api.AtStart}}, t.visits, []api.Visit{{Kind: api.AtEnd}})
}

// loads: behind each of the points.
func (t tour) loads() [][]int {
	loads := Loads(t.p, t.visits)
	return append(loads, slices.Clone(loads[len(loads)-1]))
}

// stops: of each of the points. The start and the end are taken for stops without service that are open during the shift: so one leaves the start at once, and misses the end behind it.
func (t tour) stops() []api.Stop {
	shift := []api.Window{t.car().Shift}
	stops := make([]api.Stop, 0, len(t.visits)+2)
	stops = append(stops, api.Stop{Place: t.car().Start, Windows: shift})
	for i, v := range t.visits {
		stops = append(stops, t.stop(v, stops[i].Place))
	}
	return append(stops, api.Stop{Place: t.car().End, Windows: shift})
}

// stop: of a visit; a break is where the vehicle was.
func (t tour) stop(v api.Visit, was int) api.Stop {
	if isBreak(v) {
		s := rest(t.car().Breaks[v.Item])
		s.Place = was
		return s
	}
	s, _ := model.Stop(t.p, v)
	return s
}

// rest: a break as a stop, wherever it is.
func rest(b api.Break) api.Stop { return api.Stop{Service: b.Service, Windows: b.Windows} }

// travel: how far it is, by a matrix, from the stop ahead to the i-th one; to the first one there is no way to go.
func travel(m api.Matrix, stops []api.Stop, i int) int {
	if i == 0 {
		return 0
	}
	return model.Cell(m, stops[i-1].Place, stops[i].Place)
}

// stay: when a stop to which one comes at this time begins, and when one leaves it; false: it has no start.
func stay(s api.Stop, arrival int) (start, left int, there bool) {
	start, there = hours.Start(s.Windows, arrival)
	return start, start + s.Service, there
}
