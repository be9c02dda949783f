package exact

import (
	"slices"

	"haulier/api"
	"haulier/drive"
	"haulier/hours"
	"haulier/load"
	"haulier/model"
)

// search goes through all beginnings of routes of the one vehicle, but for those that another one serves.
type search struct {
	p       api.Problem
	car     api.Vehicle
	errands []errand
	labels  map[key][]*beginning
	// The keys of labels in the order in which they were found: with as many visits and breaks, or more than those ahead.
	keys []key
	// The best that was found; of nothing the empty solution.
	best  *beginning
	score api.Score
}

// newSearch: of a problem with one vehicle.
func newSearch(p api.Problem) *search {
	car := p.Vehicles[0]
	return &search{p: p, car: car, errands: errands(p, car), labels: map[key][]*beginning{}}
}

// run: finds the best. What goes on from a beginning has more visits or breaks, so when a key's turn comes all its beginnings are there.
func (s *search) run() {
	s.keep(s.start())
	for i := 0; i < len(s.keys); i++ {
		for _, b := range s.labels[s.keys[i]] {
			s.end(b)
			s.rest(b)
			for at := range s.errands {
				s.visit(b, at)
			}
		}
	}
}

// keep: a beginning, if none serves it; those that it serves go.
func (s *search) keep(b *beginning) {
	list, is := s.labels[b.key]
	if !is {
		s.keys = append(s.keys, b.key)
	}
	if slices.ContainsFunc(list, func(c *beginning) bool { return c.serves(b) }) {
		return
	}
	list = slices.DeleteFunc(list, b.serves)
	s.labels[b.key] = append(list, b)
}

// start: nothing is done yet.
func (s *search) start() *beginning {
	none := load.Zero(s.p.Dims)
	all := none
	for _, e := range s.errands {
		all = made(load.Add, all, e.drop)
	}
	// Up to what there is room for beside all that could be brought, no peak is worse than another one.
	peak := made(load.Most, none, made(load.Sub, s.car.Cap, all))
	return &beginning{key: key{place: s.car.Start}, leave: s.car.Shift.From, brought: none, aboard: none, peak: peak}
}

// visit: goes on from a beginning to an errand, if that may be.
func (s *search) visit(b *beginning, at int) {
	e := s.errands[at]
	if b.done&bit(at) != 0 || b.done&e.ahead != e.ahead || b.tasks+e.tasks > s.car.MaxTasks {
		return
	}
	arrival, cost, is := s.drive(b, e.stop.Place)
	start, open := hours.Start(e.stop.Windows, arrival)
	if !is || !open {
		return
	}
	aboard := made(load.Add, b.aboard, e.change)
	next := &beginning{
		key: key{b.done | bit(at), e.stop.Place, b.breaks}, was: b, visit: e.visit,
		leave: start + e.stop.Service, cost: cost,
		tasks: b.tasks + e.tasks, value: b.value + e.value,
		brought: made(load.Add, b.brought, e.drop), aboard: aboard, peak: made(load.Most, b.peak, aboard),
	}
	// More to come only adds to both, so what doesn't fit now never will.
	if load.Under(made(load.Add, next.brought, next.peak), s.car.Cap) {
		s.keep(next)
	}
}

// rest: takes the next break, if there is one and it may be.
func (s *search) rest(b *beginning) {
	if b.breaks == len(s.car.Breaks) {
		return
	}
	pause := s.car.Breaks[b.breaks]
	start, open := hours.Start(pause.Windows, b.leave)
	if !open {
		return
	}
	next := *b
	next.was, next.visit = b, api.Visit{Kind: api.AtBreak, Item: b.breaks}
	next.leave = start + pause.Service
	next.breaks++
	s.keep(&next)
}

// end: goes to the end, if all that was begun is done, and that may be. (A route of no visits brings nothing, so it is never better than none.)
func (s *search) end(b *beginning) {
	if b.breaks < len(s.car.Breaks) || !s.whole(b) {
		return
	}
	arrival, cost, is := s.drive(b, s.car.End)
	if !is || arrival > s.car.Shift.To {
		return
	}
	score := api.Score{Value: b.value, Cost: s.car.Fixed + cost}
	if drive.Better(score, s.score) {
		s.best, s.score = b, score
	}
}

// whole: is each delivery done whose pickup is?
func (s *search) whole(b *beginning) bool {
	for i, e := range s.errands {
		if e.ahead&b.done != 0 && bit(i)&b.done == 0 {
			return false
		}
	}
	return true
}

// drive: when one comes from a beginning to a place, and what the way has cost then; false: there is no way.
func (s *search) drive(b *beginning, place int) (arrival, cost int, is bool) {
	time, dist := model.Cell(s.p.Time, b.place, place), model.Cell(s.p.Dist, b.place, place)
	if time < 0 || dist < 0 {
		return 0, 0, false
	}
	return b.leave + time, b.cost + time*s.car.PerTime + dist*s.car.PerDist, true
}
