package judge_test

import (
	"math"
	"math/rand"
	"testing"

	"haulier/api"
	"haulier/drive"
	"haulier/exact"
	"haulier/judge"
	"haulier/plan"
	"haulier/seed"
)

// finds: does Check answer this, and do Plans and Sums answer the same error?
func finds(t *testing.T, what string, p api.Problem, s api.Solution, at int, e api.Errno) {
	t.Helper()
	lawful(t, p)
	if got, is := judge.Check(p, s); got != at || is != e {
		t.Errorf("P20.1: %s: Check(%v): %d, %d, want %d, %d", what, s, got, is, at, e)
	}
	if _, is := judge.Plans(p, s); is != e {
		t.Errorf("P20.2: %s: Plans(%v): %d, want %d", what, s, is, e)
	}
	if _, is := judge.Sums(p, s); is != e {
		t.Errorf("P20.2: %s: Sums(%v): %d, want %d", what, s, is, e)
	}
}

// right: is it right?
func right(t *testing.T, what string, p api.Problem, s api.Solution) {
	t.Helper()
	finds(t, what, p, s, -1, api.OK)
}

// four: a right solution of the town, of a route for each vehicle.
func four() []api.Route {
	return []api.Route{route(0, job(1)), route(1, job(0)), route(2, pickup(1), delivery(1)), route(3, pickup(0), job(2), delivery(0))}
}

func TestCheckExamples(t *testing.T) {
	p := line()
	r := route(0, job(0))
	finds(t, "two routes of vehicle 0", p, routes(r, r), 1, api.ErrVehicle)
	p.Vehicles = append(p.Vehicles, p.Vehicles[0])
	finds(t, "the same job in two routes", p, routes(r, route(1, job(0))), 1, api.ErrTwice)
	right(t, "the empty solution", p, api.Solution{})
	right(t, "the empty solution", p, routes())
}

// TestCheckRight: any of the vehicles, rising, with any tasks that fit.
func TestCheckRight(t *testing.T) {
	p, l := town(), four()
	for set := range 16 {
		var s api.Solution
		for i, r := range l {
			if set>>i&1 == 1 {
				s.Routes = append(s.Routes, r)
			}
		}
		right(t, "some of four", p, s)
	}
	right(t, "all in one", p, routes(route(0, pickup(1), job(0), pickup(0), job(1), delivery(1), job(2), delivery(0))))
	right(t, "the last one alone", p, routes(route(3, job(0))))
	p.Vehicles, p.Jobs = nil, nil
	right(t, "no vehicles", p, api.Solution{})
	finds(t, "no vehicles", p, routes(route(0, pickup(0), delivery(0))), 0, api.ErrVehicle)
}

// TestCheckVehicle: one that isn't there, stood ahead, or is a lesser one.
func TestCheckVehicle(t *testing.T) {
	p, l := town(), four()
	for _, n := range []int{math.MinInt, -1 << 62, -1 << 32, -2, -1, 4, 5, 256, 1 << 32, 1<<32 + 1, 1 << 62, math.MaxInt} {
		for i := range l {
			s := routes(four()...)
			s.Routes[i].Vehicle = n
			finds(t, "one that isn't there", p, s, i, api.ErrVehicle)
			finds(t, "one that isn't there alone", p, routes(s.Routes[i]), 0, api.ErrVehicle)
		}
	}
	finds(t, "twice, other tasks", p, routes(l[0], l[1], route(1, job(2))), 2, api.ErrVehicle)
	finds(t, "twice at once", p, routes(l[3], route(3, job(0))), 1, api.ErrVehicle)
	finds(t, "0 again", p, routes(l[0], l[1], route(0, job(2)), l[3]), 2, api.ErrVehicle)
	// Each order of the four: the first that isn't above all ahead of it is wrong.
	for a := range 4 {
		for b := range 4 {
			for c := range 4 {
				s, at, e := routes(l[a], l[b], l[c]), -1, api.OK
				switch {
				case b <= a:
					at, e = 1, api.ErrVehicle
				case c <= b:
					at, e = 2, api.ErrVehicle
				}
				finds(t, "three vehicles", p, s, at, e)
			}
		}
	}
}

// TestCheckEmpty: a route without visits, nil or empty, at each place.
func TestCheckEmpty(t *testing.T) {
	p := town()
	for i := range four() {
		for _, none := range [][]api.Visit{nil, {}, make([]api.Visit, 0, 9), list(job(0))[:0]} {
			s := routes(four()...)
			s.Routes[i].Visits = none
			finds(t, "one without visits", p, s, i, api.ErrEmpty)
			finds(t, "that alone", p, routes(s.Routes[i]), 0, api.ErrEmpty)
		}
	}
}

// strained is a problem and routes of it, each with an error of plan.Fit; the vehicle of all is 1.
func strained() (api.Problem, map[api.Errno][]api.Route) {
	p := town()
	p.Vehicles[1] = api.Vehicle{
		Start: 1, End: 1, Cap: []int{20, 20}, Skills: 5, Shift: api.Window{To: 100}, MaxTasks: 1,
		Breaks: []api.Break{{Windows: spans(50, 60), Service: 10}},
	}
	p.Dist.Cells[7] = -1
	p.Jobs = append(p.Jobs, api.Job{Stop: api.Stop{Place: 0, Windows: spans(0, 7, 101, 1000)}, Drop: []int{0, 0}, Pick: []int{0, 0}, Priority: 9})
	return p, map[api.Errno][]api.Route{
		api.ErrVisit: {
			route(1, job(4)), route(1, job(-1)), route(1, job(0), job(0)), route(1, pickup(0)), route(1, delivery(0)),
			route(1, delivery(0), pickup(0)), route(1, api.Visit{}), route(1, start(), job(0)), route(1, job(0), end()),
			route(1, pickup(2), delivery(2)), route(1, job(math.MinInt)), route(1, pickup(0), delivery(0), delivery(0)),
			route(1, pickup(0), delivery(1)),
		},
		api.ErrBreak:  {route(1, pause(0), job(0)), route(1, job(0), pause(1)), route(1, pause(-1)), route(1, job(9), pause(0))},
		api.ErrSkill:  {route(1, job(1)), route(1, job(0), job(1))},
		api.ErrTasks:  {route(1, job(0), job(2)), route(1, pickup(0), job(0), delivery(0))},
		api.ErrLoad:   {route(1, pickup(0), delivery(0)), route(1, pickup(1), delivery(1))},
		api.ErrTravel: {route(1, job(2))},
		api.ErrTime:   {route(1, job(3))},
	}
}

// TestCheckFit: each error of plan.Fit, at each place.
func TestCheckFit(t *testing.T) {
	p, wrong := strained()
	ahead, behind := route(0, pickup(1), delivery(1)), route(2, job(1))
	right(t, "both", p, routes(ahead, behind))
	right(t, "both, and one between", p, routes(ahead, route(1, job(0)), behind))
	for e, l := range wrong {
		for _, r := range l {
			finds(t, "alone", p, routes(r), 0, e)
			finds(t, "first", p, routes(r, behind), 0, e)
			finds(t, "between", p, routes(ahead, r, behind), 1, e)
			finds(t, "last", p, routes(ahead, r), 1, e)
			finds(t, "ahead of another wrong one", p, routes(r, r), 0, e)
			finds(t, "ahead of another wrong one", p, routes(r, ahead), 0, e)
			finds(t, "ahead of another wrong one", p, routes(r, route(2)), 0, e)
			finds(t, "ahead of another wrong one", p, routes(r, route(4, job(0))), 0, e)
			finds(t, "ahead of another wrong one", p, routes(r, route(2, job(8))), 0, e)
			r.Vehicle = 0
			if _, is := plan.Fit(p, 0, r.Visits); is == api.OK {
				right(t, "another vehicle", p, routes(r))
			}
		}
	}
}

// TestCheckBreaks: a route is right just if its vehicle's breaks can be taken somewhere, all of them.
func TestCheckBreaks(t *testing.T) {
	p := line()
	s := routes(route(0, job(0)))
	for _, c := range []struct {
		windows []api.Window
		service int
		e       api.Errno
	}{
		{spans(0, 3), 2, api.OK},
		{spans(0, 3), 30, api.OK},
		{spans(0, 3), 31, api.ErrTime},
		{spans(33, 34), 2, api.ErrTime},
		{spans(35, 50), 2, api.OK},
		{spans(33, 34, 36, 50), 54, api.OK},
		{spans(33, 34, 36, 50), 55, api.ErrTime},
		{spans(100, 100), 0, api.ErrTime},
	} {
		p.Vehicles[0].Breaks = []api.Break{{Windows: c.windows, Service: c.service}}
		at := -1
		if c.e != api.OK {
			at = 0
		}
		finds(t, "a break", p, s, at, c.e)
		right(t, "a vehicle that doesn't drive", p, api.Solution{})
		p.Vehicles[0].Breaks = append(p.Vehicles[0].Breaks, api.Break{Windows: spans(0, 0)})
		finds(t, "behind it, one that is missed", p, s, 0, api.ErrTime)
	}
}

// TestCheckTwice: a task in two routes, wherever they stand; tasks of another kind with its number are others.
func TestCheckTwice(t *testing.T) {
	p := town()
	j, s := list(job(0)), list(pickup(0), delivery(0))
	right(t, "job 0, shipment 0", p, routes(route(0, j...), route(3, s...)))
	right(t, "shipment 0, job 0", p, routes(route(0, s...), route(1, j...)))
	finds(t, "a job", p, routes(route(0, j...), route(3, j...)), 1, api.ErrTwice)
	finds(t, "a shipment", p, routes(route(0, s...), route(3, s...)), 1, api.ErrTwice)
	finds(t, "far ahead", p, routes(route(0, j...), route(2, job(1)), route(3, j...)), 2, api.ErrTwice)
	finds(t, "right ahead", p, routes(route(0, job(1)), route(2, j...), route(3, j...)), 2, api.ErrTwice)
	finds(t, "in three", p, routes(route(0, j...), route(2, j...), route(3, j...)), 1, api.ErrTwice)
	finds(t, "among others", p, routes(route(0, job(1), pickup(0), job(0), delivery(0)), route(3, job(2), pickup(0), delivery(0))), 1, api.ErrTwice)
	finds(t, "the last visit", p, routes(route(0, job(0), job(1), job(2)), route(3, pickup(0), delivery(0), job(2))), 1, api.ErrTwice)
	finds(t, "all", p, routes(route(0, job(0), job(1)), route(3, job(1), job(0))), 1, api.ErrTwice)
	right(t, "each once", p, routes(route(0, job(1), pickup(1), job(0), delivery(1)), route(3, job(2), pickup(0), delivery(0))))
}

// TestCheckOrder: of several things that are wrong with one route the first is told.
func TestCheckOrder(t *testing.T) {
	p, wrong := strained()
	finds(t, "vehicle ahead of empty", p, routes(route(-1)), 0, api.ErrVehicle)
	finds(t, "vehicle ahead of empty", p, routes(route(4)), 0, api.ErrVehicle)
	finds(t, "vehicle ahead of empty", p, routes(route(1, job(0)), route(1)), 1, api.ErrVehicle)
	finds(t, "vehicle ahead of empty", p, routes(route(1, job(0)), route(0)), 1, api.ErrVehicle)
	finds(t, "vehicle ahead of twice", p, routes(route(1, job(0)), route(0, job(0))), 1, api.ErrVehicle)
	// The first vehicle has all tasks, so whatever comes behind has some of them.
	all := route(0, job(3), pickup(1), pickup(0), delivery(0), job(0), job(1), delivery(1), job(2))
	right(t, "all tasks", p, routes(all))
	for e, l := range wrong {
		for _, r := range l {
			finds(t, "vehicle ahead of Fit", p, routes(route(3, job(2)), r), 1, api.ErrVehicle)
			finds(t, "vehicle ahead of Fit", p, routes(route(1, job(0)), r), 1, api.ErrVehicle)
			finds(t, "vehicle ahead of Fit", p, routes(route(4, r.Visits...)), 0, api.ErrVehicle)
			finds(t, "Fit ahead of twice", p, routes(all, r), 1, e)
		}
	}
	p = town()
	p.Vehicles[1].Shift.To = 40
	finds(t, "time ahead of twice", p, routes(route(0, job(0)), route(1, job(0))), 1, api.ErrTime)
	p.Vehicles[1].Shift.To = 300
	finds(t, "twice", p, routes(route(0, job(0)), route(1, job(0))), 1, api.ErrTwice)
}

// TestCheckFirst: of each two wrong routes the one ahead is told, with its place.
func TestCheckFirst(t *testing.T) {
	p := town()
	wrong := []struct {
		change func(r *api.Route)
		e      api.Errno
	}{
		{func(r *api.Route) { r.Vehicle = -1 }, api.ErrVehicle},
		{func(r *api.Route) { r.Vehicle = 4 }, api.ErrVehicle},
		{func(r *api.Route) { r.Visits = nil }, api.ErrEmpty},
		{func(r *api.Route) { r.Visits = list(job(7)) }, api.ErrVisit},
		{func(r *api.Route) { r.Visits = list(pause(0)) }, api.ErrBreak},
	}
	for i := range four() {
		for _, a := range wrong {
			for k := i + 1; k < len(four()); k++ {
				for _, b := range wrong {
					s := routes(four()...)
					a.change(&s.Routes[i])
					b.change(&s.Routes[k])
					finds(t, "two wrong ones", p, s, i, a.e)
				}
			}
		}
	}
}

// TestCheckDrawn: right solutions, and such in which something was changed, against the document's words.
func TestCheckDrawn(t *testing.T) {
	r := rand.New(rand.NewSource(201))
	met := map[api.Errno]int{}
	for range 15000 {
		p := drawnProblem(r)
		s := drawnRight(r, p)
		for range 4 {
			_, at, e := judged(p, s)
			finds(t, "drawn", p, s, at, e)
			if at != 0 {
				met[e]++
			}
			s = spoilt(r, s)
		}
	}
	t.Logf("errors behind a right route: %v", met)
	for _, e := range []api.Errno{api.OK, api.ErrVehicle, api.ErrEmpty, api.ErrVisit, api.ErrBreak, api.ErrSkill, api.ErrTasks, api.ErrLoad, api.ErrTravel, api.ErrTime, api.ErrTwice} {
		if met[e] < 10 {
			t.Errorf("error %d came only %d times behind a right route", e, met[e])
		}
	}
}

// TestCheckSearched: what the layers below answer is right.
func TestCheckSearched(t *testing.T) {
	r := rand.New(rand.NewSource(202))
	for range 300 {
		p := drawnProblem(r)
		greedy := seed.Greedy(p)
		right(t, "seed.Greedy", p, greedy)
		better, _, _ := drive.Improve(p, greedy, 200, []int{r.Int(), r.Int()})
		right(t, "drive.Improve", p, better)
		if best, is := exact.Best(p); is {
			right(t, "exact.Best", p, best)
		}
	}
}
