package seed

import (
	"math/rand"
	"reflect"
	"slices"
	"testing"

	"haulier/api"
	"haulier/model"
	"haulier/plan"
)

func job(i int) api.Visit      { return api.Visit{Kind: api.AtJob, Item: i} }
func pickup(i int) api.Visit   { return api.Visit{Kind: api.AtPickup, Item: i} }
func delivery(i int) api.Visit { return api.Visit{Kind: api.AtDelivery, Item: i} }
func pause(i int) api.Visit    { return api.Visit{Kind: api.AtBreak, Item: i} }

// list: visits, one behind the other.
func list(l ...api.Visit) []api.Visit { return l }

// jobTask, shipTask: tasks.
func jobTask(i int) api.Task  { return api.Task{Item: i} }
func shipTask(i int) api.Task { return api.Task{Ship: true, Item: i} }

// route, routes: a solution, route by route.
func route(vehicle int, l ...api.Visit) api.Route { return api.Route{Vehicle: vehicle, Visits: l} }
func routes(l ...api.Route) api.Solution          { return api.Solution{Routes: l} }

// spans: windows from pairs of numbers.
func spans(ends ...int) []api.Window {
	var l []api.Window
	for i := 0; i+1 < len(ends); i += 2 {
		l = append(l, api.Window{From: ends[i], To: ends[i+1]})
	}
	return l
}

// always: a window that is never missed.
func always() []api.Window { return spans(0, 1000000) }

// square: a matrix of rows that are written one behind the other.
func square(n int, cells ...int) api.Matrix { return api.Matrix{N: n, Cells: cells} }

// beyond: numbers of none of so many.
func beyond(n int) []int {
	return []int{n, n + 1, n + 7, -1, -2, -n - 1, 256 + n, 1 << 16, 1 << 32, -1 << 32, 1 << 62, -1 << 62, -1 << 63, 1<<63 - 1}
}

// lawful: the tests hand in problems, unless they say otherwise.
func lawful(t *testing.T, p api.Problem) {
	t.Helper()
	if e := model.Check(p); e != api.OK {
		t.Fatalf("the test's own problem is none: %d: %+v", e, p)
	}
}

// same: equal routes; a list without elements is the same as nil.
func same(a, b api.Solution) bool {
	return slices.EqualFunc(a.Routes, b.Routes, func(x, y api.Route) bool {
		return x.Vehicle == y.Vehicle && slices.Equal(x.Visits, y.Visits)
	})
}

// sameLists: equal lists of visits.
func sameLists(a, b [][]api.Visit) bool { return slices.EqualFunc(a, b, slices.Equal[[]api.Visit]) }

// stop: a stop without service that is always open.
func stop(place int) api.Stop { return api.Stop{Place: place, Windows: always()} }

// street: so many places, 10 apart from each other, in a row.
func street(n int) api.Matrix {
	m := api.Matrix{N: n}
	for i := range n {
		for j := range n {
			m.Cells = append(m.Cells, 10*max(i-j, j-i))
		}
	}
	return m
}

// car: a vehicle from a place and back to it, which pays for its time alone.
func car(home int) api.Vehicle {
	return api.Vehicle{Start: home, End: home, Shift: api.Window{To: 1000000}, PerTime: 1, MaxTasks: 12}
}

// village: a street of nine places, and jobs, always open, at some of them.
func village(cars []api.Vehicle, places ...int) api.Problem {
	p := api.Problem{Time: street(9), Dist: street(9), Vehicles: cars}
	for _, place := range places {
		p.Jobs = append(p.Jobs, api.Job{Stop: stop(place)})
	}
	return p
}

// town: four places, two vehicles with breaks, three jobs and two shipments in two dimensions; ways there and back differ, and so do times and distances.
func town() api.Problem {
	return api.Problem{
		Dims: 2,
		Time: square(4, 0, 7, 12, 5, 8, 0, 6, 9, 11, 4, 0, 3, 13, 10, 2, 0),
		Dist: square(4, 0, 70, 110, 60, 81, 0, 52, 93, 117, 44, 0, 35, 128, 102, 23, 0),
		Vehicles: []api.Vehicle{
			{
				Start: 0, End: 3, Cap: []int{100, 200}, Skills: 7, Shift: api.Window{From: 20, To: 1000},
				Fixed: 1000, PerTime: 3, PerDist: 2, MaxTasks: 12,
				Breaks: []api.Break{{Windows: always(), Service: 15}, {Windows: always(), Service: 25}},
			},
			{
				Start: 1, End: 1, Cap: []int{40, 50}, Skills: 5, Shift: api.Window{From: 0, To: 300},
				Fixed: 10, PerTime: 30, PerDist: 4, MaxTasks: 3,
				Breaks: []api.Break{{Windows: spans(50, 60), Service: 10}},
			},
		},
		Jobs: []api.Job{
			{Stop: api.Stop{Place: 1, Service: 4, Windows: always()}, Drop: []int{1, 2}, Pick: []int{3, 5}, Skills: 1, Priority: 1},
			{Stop: api.Stop{Place: 2, Service: 6, Windows: always()}, Drop: []int{7, 11}, Pick: []int{0, 1}, Skills: 2, Priority: 2},
			{Stop: api.Stop{Place: 3, Service: 0, Windows: always()}, Drop: []int{0, 0}, Pick: []int{13, 17}, Priority: 3},
		},
		Shipments: []api.Shipment{
			{Pickup: api.Stop{Place: 2, Service: 3, Windows: always()}, Delivery: api.Stop{Place: 1, Service: 2, Windows: always()}, Amount: []int{19, 23}, Skills: 4, Priority: 4},
			{Pickup: api.Stop{Place: 0, Service: 1, Windows: always()}, Delivery: api.Stop{Place: 2, Service: 5, Windows: always()}, Amount: []int{29, 31}, Skills: 5, Priority: 5},
		},
	}
}

// firstOf: the visits of the first route of a vehicle, as the chapter's words say.
func firstOf(s api.Solution, vehicle int) []api.Visit {
	at := slices.IndexFunc(s.Routes, func(r api.Route) bool { return r.Vehicle == vehicle })
	if at < 0 {
		return nil
	}
	return s.Routes[at].Visits
}

// replaced: what With has to answer: the numbers of the vehicles one by one, rising, and of each its routes.
func replaced(s api.Solution, vehicle int, visits []api.Visit) api.Solution {
	numbers := []int{vehicle}
	for _, r := range s.Routes {
		numbers = append(numbers, r.Vehicle)
	}
	slices.Sort(numbers)
	var with api.Solution
	for _, n := range slices.Compact(numbers) {
		if n == vehicle {
			if len(visits) > 0 {
				with.Routes = append(with.Routes, route(n, visits...))
			}
			continue
		}
		for _, r := range s.Routes {
			if r.Vehicle == n {
				with.Routes = append(with.Routes, r)
			}
		}
	}
	return with
}

// filled: a list with these visits at these places, which rise, and the others around them.
func filled(visits, put []api.Visit, places ...int) []api.Visit {
	var l []api.Visit
	for len(visits)+len(put) > 0 {
		from := &visits
		if len(places) > 0 && places[0] == len(l) {
			from, places = &put, places[1:]
		}
		l = append(l, (*from)[0])
		*from = (*from)[1:]
	}
	return l
}

// waysOf: what Ways has to answer, place by place.
func waysOf(visits []api.Visit, t api.Task) [][]api.Visit {
	var all [][]api.Visit
	n := len(visits)
	if !t.Ship {
		for i := range n + 1 {
			all = append(all, filled(visits, list(job(t.Item)), i))
		}
		return all
	}
	for i := range n + 2 {
		for j := i + 1; j < n+2; j++ {
			all = append(all, filled(visits, list(pickup(t.Item), delivery(t.Item)), i, j))
		}
	}
	return all
}

// costOf: what Cost has to answer.
func costOf(p api.Problem, vehicle int, visits []api.Visit) (int, api.Errno) {
	if len(visits) == 0 {
		return 0, api.OK
	}
	x, e := plan.Fit(p, vehicle, visits)
	if e != api.OK {
		return 0, e
	}
	return x.Cost, api.OK
}

// option is a way that may be chosen.
type option struct {
	vehicle, growth int
	way             []api.Visit
}

// options: all of them, vehicle by vehicle, way by way.
func options(p api.Problem, s api.Solution, t api.Task) []option {
	var all []option
	for vehicle := range p.Vehicles {
		was, e := costOf(p, vehicle, firstOf(s, vehicle))
		if e != api.OK {
			continue
		}
		for _, way := range waysOf(firstOf(s, vehicle), t) {
			if cost, e := costOf(p, vehicle, way); e == api.OK {
				all = append(all, option{vehicle, cost - was, way})
			}
		}
	}
	return all
}

// inserted: what Insert has to answer: of the options the first with the least growth of all.
func inserted(p api.Problem, s api.Solution, t api.Task) (api.Solution, int, bool) {
	all := options(p, s, t)
	if len(all) == 0 {
		return api.Solution{}, 0, false
	}
	var growths []int
	for _, o := range all {
		growths = append(growths, o.growth)
	}
	least := slices.Min(growths)
	o := all[slices.Index(growths, least)]
	return replaced(s, o.vehicle, o.way), least, true
}

// drawnWindows: one up to four, the times of which are below 200.
func drawnWindows(r *rand.Rand) []api.Window {
	if r.Intn(3) > 0 {
		return spans(r.Intn(4), 100+r.Intn(90))
	}
	var l []api.Window
	from := r.Intn(30)
	for range 1 + r.Intn(4) {
		to := from + r.Intn(25)
		l = append(l, api.Window{From: from, To: to})
		from = to + 1 + r.Intn(18)
	}
	return l
}

// drawnMatrix: of small numbers, with ways that lack if so said.
func drawnMatrix(r *rand.Rand, n int, lack bool) api.Matrix {
	m := api.Matrix{N: n, Cells: make([]int, n*n)}
	for i := range m.Cells {
		m.Cells[i] = r.Intn(10)
		if lack && r.Intn(12) == 0 {
			m.Cells[i] = -1
		}
		if i/n == i%n {
			m.Cells[i] = 0
		}
	}
	return m
}

func drawnAmounts(r *rand.Rand, dims, below int) []int {
	a := make([]int, dims)
	for i := range a {
		a[i] = r.Intn(below)
	}
	return a
}

func drawnStop(r *rand.Rand, n int) api.Stop {
	return api.Stop{Place: r.Intn(n), Service: r.Intn(6), Windows: drawnWindows(r)}
}

func drawnVehicle(r *rand.Rand, n, dims int) api.Vehicle {
	from := r.Intn(10)
	car := api.Vehicle{
		Start: r.Intn(n), End: r.Intn(n), Cap: drawnAmounts(r, dims, 10), Skills: 7,
		Shift: api.Window{From: from, To: from + 20 + r.Intn(180)},
		Fixed: r.Intn(2) * r.Intn(20), PerTime: r.Intn(4), PerDist: r.Intn(3), MaxTasks: 12,
	}
	for d := range car.Cap {
		car.Cap[d] += 3
	}
	if r.Intn(5) == 0 {
		car.Skills = uint64(r.Intn(8))
	}
	if r.Intn(5) == 0 {
		car.MaxTasks = r.Intn(5)
	}
	for range r.Intn(3) * r.Intn(2) {
		car.Breaks = append(car.Breaks, api.Break{Windows: drawnWindows(r), Service: r.Intn(6)})
	}
	return car
}

// drawnProblem: a small one, of which everything may be short.
func drawnProblem(r *rand.Rand) api.Problem {
	n, dims := 1+r.Intn(5), r.Intn(4)
	lack := r.Intn(3) == 0
	p := api.Problem{Dims: dims, Time: drawnMatrix(r, n, lack), Dist: drawnMatrix(r, n, lack)}
	for range r.Intn(5) {
		if len(p.Vehicles) > 0 && r.Intn(3) == 0 {
			// The same vehicle again: much costs the same then.
			p.Vehicles = append(p.Vehicles, p.Vehicles[0])
			continue
		}
		p.Vehicles = append(p.Vehicles, drawnVehicle(r, n, dims))
	}
	for range r.Intn(6) {
		p.Jobs = append(p.Jobs, api.Job{Stop: drawnStop(r, n), Drop: drawnAmounts(r, dims, 4), Pick: drawnAmounts(r, dims, 4), Skills: 1 << r.Intn(3), Priority: r.Intn(4)})
	}
	for range r.Intn(4) {
		p.Shipments = append(p.Shipments, api.Shipment{Pickup: drawnStop(r, n), Delivery: drawnStop(r, n), Amount: drawnAmounts(r, dims, 5), Skills: 1 << r.Intn(3), Priority: r.Intn(4)})
	}
	return p
}

// drawnTask: of a problem; now and then one that isn't there.
func drawnTask(r *rand.Rand, p api.Problem) api.Task {
	t := api.Task{Ship: r.Intn(2) == 0}
	n := len(p.Jobs)
	if t.Ship {
		n = len(p.Shipments)
	}
	t.Item = r.Intn(n + 1)
	if t.Item == n && r.Intn(4) > 0 {
		t.Item = max(0, n-1)
	}
	return t
}

// drawnSolution: tasks dealt out to the vehicles, each with its visits in order, right or not; now and then with a second route of a vehicle, with a task twice, with an empty route, and of a vehicle that isn't there; routes in any order.
func drawnSolution(r *rand.Rand, p api.Problem) api.Solution {
	dealt := make([][]api.Visit, len(p.Vehicles)+3)
	for _, t := range model.Tasks(p) {
		for k := range dealt {
			if r.Intn(len(dealt)+2) > 0 {
				continue
			}
			all := waysOf(dealt[k], t)
			dealt[k] = all[r.Intn(len(all))]
		}
	}
	var s api.Solution
	for k, l := range dealt {
		vehicle := k
		switch k - len(p.Vehicles) {
		case 0, 1:
			vehicle = r.Intn(len(p.Vehicles) + 1)
		case 2:
			vehicle = r.Intn(9) - 3
		}
		if len(l) > 0 || r.Intn(9) == 0 {
			s.Routes = append(s.Routes, route(vehicle, l...))
		}
	}
	if r.Intn(2) == 0 {
		r.Shuffle(len(s.Routes), reflect.Swapper(s.Routes))
	}
	return s
}
