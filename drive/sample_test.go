package drive_test

import (
	"math/rand"
	"slices"
	"testing"

	"haulier/api"
	"haulier/model"
	"haulier/plan"
	"haulier/seed"
)

func job(i int) api.Visit      { return api.Visit{Kind: api.AtJob, Item: i} }
func pickup(i int) api.Visit   { return api.Visit{Kind: api.AtPickup, Item: i} }
func delivery(i int) api.Visit { return api.Visit{Kind: api.AtDelivery, Item: i} }
func pause(i int) api.Visit    { return api.Visit{Kind: api.AtBreak, Item: i} }

// list: visits, one behind the other.
func list(l ...api.Visit) []api.Visit { return l }

// jobTask, shipTask: tasks.
func jobTask(i int) api.Task  { return api.Task{Item: i} }
func shipTask(i int) api.Task { return api.Task{Ship: true, Item: i} }

// route, routes: a solution, route by route.
func route(vehicle int, l ...api.Visit) api.Route { return api.Route{Vehicle: vehicle, Visits: l} }
func routes(l ...api.Route) api.Solution          { return api.Solution{Routes: l} }

// spans: windows from pairs of numbers.
func spans(ends ...int) []api.Window {
	var l []api.Window
	for i := 0; i+1 < len(ends); i += 2 {
		l = append(l, api.Window{From: ends[i], To: ends[i+1]})
	}
	return l
}

// always: a window that is never missed.
func always() []api.Window { return spans(0, 1000000) }

// square: a matrix of rows that are written one behind the other.
func square(n int, cells ...int) api.Matrix { return api.Matrix{N: n, Cells: cells} }

// lawful: the tests hand in problems, unless they say otherwise.
func lawful(t *testing.T, p api.Problem) {
	t.Helper()
	if e := model.Check(p); e != api.OK {
		t.Fatalf("the test's own problem is none: %d: %+v", e, p)
	}
}

// same: equal routes; a list without elements is the same as nil.
func same(a, b api.Solution) bool {
	return slices.EqualFunc(a.Routes, b.Routes, func(x, y api.Route) bool {
		return x.Vehicle == y.Vehicle && slices.Equal(x.Visits, y.Visits)
	})
}

// stop: a stop without service that is always open.
func stop(place int) api.Stop { return api.Stop{Place: place, Windows: always()} }

// street: so many places, 10 apart from each other, in a row.
func street(n int) api.Matrix {
	m := api.Matrix{N: n}
	for i := range n {
		for j := range n {
			m.Cells = append(m.Cells, 10*max(i-j, j-i))
		}
	}
	return m
}

// car: a vehicle from a place and back to it, which pays for its time alone.
func car(home int) api.Vehicle {
	return api.Vehicle{Start: home, End: home, Shift: api.Window{To: 1000000}, PerTime: 1, MaxTasks: 12}
}

// village: a street of nine places, and jobs, always open, at some of them.
func village(cars []api.Vehicle, places ...int) api.Problem {
	p := api.Problem{Time: street(9), Dist: street(9), Vehicles: cars}
	for _, place := range places {
		p.Jobs = append(p.Jobs, api.Job{Stop: stop(place)})
	}
	return p
}

// town: four places, two vehicles with breaks, three jobs and two shipments in two dimensions; ways there and back differ, and so do times and distances.
func town() api.Problem {
	return api.Problem{
		Dims: 2,
		Time: square(4, 0, 7, 12, 5, 8, 0, 6, 9, 11, 4, 0, 3, 13, 10, 2, 0),
		Dist: square(4, 0, 70, 110, 60, 81, 0, 52, 93, 117, 44, 0, 35, 128, 102, 23, 0),
		Vehicles: []api.Vehicle{
			{
				Start: 0, End: 3, Cap: []int{100, 200}, Skills: 7, Shift: api.Window{From: 20, To: 1000},
				Fixed: 1000, PerTime: 3, PerDist: 2, MaxTasks: 12,
				Breaks: []api.Break{{Windows: always(), Service: 15}, {Windows: always(), Service: 25}},
			},
			{
				Start: 1, End: 1, Cap: []int{40, 50}, Skills: 5, Shift: api.Window{From: 0, To: 300},
				Fixed: 10, PerTime: 30, PerDist: 4, MaxTasks: 3,
				Breaks: []api.Break{{Windows: spans(50, 60), Service: 10}},
			},
		},
		Jobs: []api.Job{
			{Stop: api.Stop{Place: 1, Service: 4, Windows: always()}, Drop: []int{1, 2}, Pick: []int{3, 5}, Skills: 1, Priority: 1},
			{Stop: api.Stop{Place: 2, Service: 6, Windows: always()}, Drop: []int{7, 11}, Pick: []int{0, 1}, Skills: 2, Priority: 2},
			{Stop: api.Stop{Place: 3, Service: 0, Windows: always()}, Drop: []int{0, 0}, Pick: []int{13, 17}, Priority: 3},
		},
		Shipments: []api.Shipment{
			{Pickup: api.Stop{Place: 2, Service: 3, Windows: always()}, Delivery: api.Stop{Place: 1, Service: 2, Windows: always()}, Amount: []int{19, 23}, Skills: 4, Priority: 4},
			{Pickup: api.Stop{Place: 0, Service: 1, Windows: always()}, Delivery: api.Stop{Place: 2, Service: 5, Windows: always()}, Amount: []int{29, 31}, Skills: 5, Priority: 5},
		},
	}
}

// drawnWindows: one up to four, the times of which are below 200.
func drawnWindows(r *rand.Rand) []api.Window {
	if r.Intn(3) > 0 {
		return spans(r.Intn(4), 100+r.Intn(90))
	}
	var l []api.Window
	from := r.Intn(30)
	for range 1 + r.Intn(4) {
		to := from + r.Intn(25)
		l = append(l, api.Window{From: from, To: to})
		from = to + 1 + r.Intn(18)
	}
	return l
}

// drawnMatrix: of small numbers, with ways that lack if so said.
func drawnMatrix(r *rand.Rand, n int, lack bool) api.Matrix {
	m := api.Matrix{N: n, Cells: make([]int, n*n)}
	for i := range m.Cells {
		m.Cells[i] = r.Intn(10)
		if lack && r.Intn(12) == 0 {
			m.Cells[i] = -1
		}
		if i/n == i%n {
			m.Cells[i] = 0
		}
	}
	return m
}

func drawnAmounts(r *rand.Rand, dims, below int) []int {
	a := make([]int, dims)
	for i := range a {
		a[i] = r.Intn(below)
	}
	return a
}

func drawnStop(r *rand.Rand, n int) api.Stop {
	return api.Stop{Place: r.Intn(n), Service: r.Intn(6), Windows: drawnWindows(r)}
}

func drawnVehicle(r *rand.Rand, n, dims int) api.Vehicle {
	from := r.Intn(10)
	car := api.Vehicle{
		Start: r.Intn(n), End: r.Intn(n), Cap: drawnAmounts(r, dims, 10), Skills: 7,
		Shift: api.Window{From: from, To: from + 20 + r.Intn(180)},
		Fixed: r.Intn(2) * r.Intn(20), PerTime: r.Intn(4), PerDist: r.Intn(3), MaxTasks: 12,
	}
	for d := range car.Cap {
		car.Cap[d] += 3
	}
	if r.Intn(5) == 0 {
		car.Skills = uint64(r.Intn(8))
	}
	if r.Intn(5) == 0 {
		car.MaxTasks = r.Intn(5)
	}
	for range r.Intn(3) * r.Intn(2) {
		car.Breaks = append(car.Breaks, api.Break{Windows: drawnWindows(r), Service: r.Intn(6)})
	}
	return car
}

// drawnProblem: a small one, of which everything may be short.
func drawnProblem(r *rand.Rand) api.Problem {
	n, dims := 1+r.Intn(5), r.Intn(4)
	lack := r.Intn(3) == 0
	p := api.Problem{Dims: dims, Time: drawnMatrix(r, n, lack), Dist: drawnMatrix(r, n, lack)}
	for range r.Intn(5) {
		if len(p.Vehicles) > 0 && r.Intn(3) == 0 {
			// The same vehicle again: much costs the same then.
			p.Vehicles = append(p.Vehicles, p.Vehicles[0])
			continue
		}
		p.Vehicles = append(p.Vehicles, drawnVehicle(r, n, dims))
	}
	for range r.Intn(6) {
		p.Jobs = append(p.Jobs, api.Job{Stop: drawnStop(r, n), Drop: drawnAmounts(r, dims, 4), Pick: drawnAmounts(r, dims, 4), Skills: 1 << r.Intn(3), Priority: r.Intn(4)})
	}
	for range r.Intn(4) {
		p.Shipments = append(p.Shipments, api.Shipment{Pickup: drawnStop(r, n), Delivery: drawnStop(r, n), Amount: drawnAmounts(r, dims, 5), Skills: 1 << r.Intn(3), Priority: r.Intn(4)})
	}
	return p
}

// great: as much as a problem may have: four vehicles with two breaks, twelve tasks, 32 places.
func great(r *rand.Rand, ships int) api.Problem {
	p := api.Problem{Dims: 3, Time: drawnMatrix(r, 32, false), Dist: drawnMatrix(r, 32, false)}
	for range 4 {
		v := api.Vehicle{Start: r.Intn(32), End: r.Intn(32), Cap: []int{1000, 1000, 1000}, Skills: 7, Shift: api.Window{To: 1000000}, PerTime: 3, PerDist: 2, MaxTasks: 12}
		v.Breaks = []api.Break{{Windows: spans(1, 1, 40, 41), Service: 3}, {Windows: spans(2, 2, 50, 50, 90, 90), Service: 1}}
		p.Vehicles = append(p.Vehicles, v)
	}
	for i := range 12 {
		if i < ships {
			p.Shipments = append(p.Shipments, api.Shipment{Pickup: stop(r.Intn(32)), Delivery: stop(r.Intn(32)), Amount: []int{1, 2, 3}, Priority: r.Intn(101)})
		} else {
			p.Jobs = append(p.Jobs, api.Job{Stop: stop(r.Intn(32)), Drop: []int{1, 2, 3}, Pick: []int{3, 2, 1}, Priority: r.Intn(101)})
		}
	}
	return p
}

// drawnRight: a right solution: some of the tasks, each wherever it fits, so that most could be better.
func drawnRight(r *rand.Rand, p api.Problem) api.Solution {
	var s api.Solution
	tasks := model.Tasks(p)
	r.Shuffle(len(tasks), func(i, j int) { tasks[i], tasks[j] = tasks[j], tasks[i] })
	for _, t := range tasks {
		if len(p.Vehicles) == 0 || r.Intn(5) == 0 {
			continue
		}
		vehicle := r.Intn(len(p.Vehicles))
		ways := seed.Ways(seed.Visits(s, vehicle), t)
		for range 6 {
			way := ways[r.Intn(len(ways))]
			if _, e := plan.Fit(p, vehicle, way); e == api.OK {
				s = seed.With(s, vehicle, way)
				break
			}
		}
	}
	return s
}

// drawnRoutes: a solution, right or not: tasks dealt out to vehicles, one of which may not be there or come twice, now and then an empty route, a visit too many or one less; routes in any order.
func drawnRoutes(r *rand.Rand, p api.Problem) api.Solution {
	var s api.Solution
	for range r.Intn(len(p.Vehicles) + 2) {
		s.Routes = append(s.Routes, route(r.Intn(len(p.Vehicles)+1)))
	}
	for _, t := range model.Tasks(p) {
		for i := range s.Routes {
			if r.Intn(len(s.Routes)+1) == 0 {
				ways := seed.Ways(s.Routes[i].Visits, t)
				s.Routes[i].Visits = ways[r.Intn(len(ways))]
			}
		}
	}
	for i := range s.Routes {
		l := s.Routes[i].Visits
		switch r.Intn(12) {
		case 0:
			s.Routes[i].Visits = slices.Insert(l, r.Intn(len(l)+1), api.Visit{Kind: api.VisitKind(r.Intn(8)), Item: r.Intn(6) - 1})
		case 1:
			s.Routes[i].Visits = l[:len(l)-len(l)/3]
		}
	}
	return s
}

// draws: so many, of all sizes and of both signs, zeros among them.
func draws(r *rand.Rand, n int) []int {
	var l []int
	for range n {
		switch r.Intn(4) {
		case 0:
			l = append(l, 0)
		case 1:
			l = append(l, r.Intn(9)-4)
		default:
			l = append(l, int(r.Uint64()))
		}
	}
	return l
}

// scoreOf: what Score has to answer, as the chapter's words say.
func scoreOf(p api.Problem, s api.Solution) (api.Score, api.Errno) {
	value, cost := 0, 0
	for _, x := range s.Routes {
		plan, e := plan.Fit(p, x.Vehicle, x.Visits)
		if e != api.OK {
			return api.Score{}, e
		}
		cost += plan.Cost
		for _, v := range x.Visits {
			switch v.Kind {
			case api.AtJob:
				value += p.Jobs[v.Item].Priority
			case api.AtPickup:
				value += p.Shipments[v.Item].Priority
			}
		}
	}
	return api.Score{Value: value, Cost: cost}, api.OK
}

// wrongWith: what is wrong with a solution; nothing, if it's right.
func wrongWith(p api.Problem, s api.Solution) string {
	last := -1
	var all []api.Visit
	for _, x := range s.Routes {
		switch {
		case x.Vehicle <= last:
			return "the vehicles don't rise"
		case len(x.Visits) == 0:
			return "an empty route"
		}
		if _, e := plan.Fit(p, x.Vehicle, x.Visits); e != api.OK {
			return "a route is none"
		}
		for _, v := range x.Visits {
			if slices.Contains(all, v) {
				return "a task stands twice"
			}
			all = append(all, v)
		}
		last = x.Vehicle
	}
	return ""
}

// starts: right solutions of a problem to begin with.
func starts(r *rand.Rand, p api.Problem) []api.Solution {
	return []api.Solution{{}, seed.Greedy(p), drawnRight(r, p), drawnRight(r, p)}
}
