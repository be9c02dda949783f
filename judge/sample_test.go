package judge_test

import (
	"math/rand"
	"reflect"
	"slices"
	"testing"

	"haulier/api"
	"haulier/model"
	"haulier/plan"
	"haulier/seed"
)

func job(i int) api.Visit      { return api.Visit{Kind: api.AtJob, Item: i} }
func pickup(i int) api.Visit   { return api.Visit{Kind: api.AtPickup, Item: i} }
func delivery(i int) api.Visit { return api.Visit{Kind: api.AtDelivery, Item: i} }
func pause(i int) api.Visit    { return api.Visit{Kind: api.AtBreak, Item: i} }
func start() api.Visit         { return api.Visit{Kind: api.AtStart} }
func end() api.Visit           { return api.Visit{Kind: api.AtEnd} }

// list: visits, one behind the other.
func list(l ...api.Visit) []api.Visit { return l }

// route, routes: a solution, route by route.
func route(vehicle int, l ...api.Visit) api.Route { return api.Route{Vehicle: vehicle, Visits: l} }
func routes(l ...api.Route) api.Solution          { return api.Solution{Routes: l} }

// spans: windows from pairs of numbers.
func spans(ends ...int) []api.Window {
	var l []api.Window
	for i := 0; i+1 < len(ends); i += 2 {
		l = append(l, api.Window{From: ends[i], To: ends[i+1]})
	}
	return l
}

// always: a window that is never missed.
func always() []api.Window { return spans(0, 1000000) }

// square: a matrix of rows that are written one behind the other.
func square(n int, cells ...int) api.Matrix { return api.Matrix{N: n, Cells: cells} }

// stop: a stop without service that is always open.
func stop(place int) api.Stop { return api.Stop{Place: place, Windows: always()} }

// lawful: the tests hand in problems, unless they say otherwise.
func lawful(t *testing.T, p api.Problem) {
	t.Helper()
	if e := model.Check(p); e != api.OK {
		t.Fatalf("the test's own problem is none: %d: %+v", e, p)
	}
}

// full: a copy with empty lists in place of nil, and without spare room.
func full[T any](x T) T { return filled(reflect.ValueOf(x)).Interface().(T) }

func filled(v reflect.Value) reflect.Value {
	switch v.Kind() {
	case reflect.Struct:
		s := reflect.New(v.Type()).Elem()
		for i := range v.NumField() {
			s.Field(i).Set(filled(v.Field(i)))
		}
		return s
	case reflect.Slice:
		l := reflect.MakeSlice(v.Type(), v.Len(), v.Len())
		for i := range v.Len() {
			l.Index(i).Set(filled(v.Index(i)))
		}
		return l
	}
	return v
}

// alike: are all fields the same, whatever they are? A list without elements is the same as nil.
func alike[T any](a, b T) bool { return reflect.DeepEqual(full(a), full(b)) }

// line: the chapter's problem of 13-plan.md: two places 10 apart, a vehicle from the one and back, a job at the other.
func line() api.Problem {
	m := square(2, 0, 10, 10, 0)
	return api.Problem{
		Time: m, Dist: m,
		Vehicles: []api.Vehicle{{Shift: api.Window{To: 100}, PerTime: 1, MaxTasks: 12}},
		Jobs:     []api.Job{{Stop: api.Stop{Place: 1, Service: 5, Windows: spans(30, 40)}, Priority: 1}},
	}
}

// town: four places, two vehicles with breaks and two without, three jobs and two shipments in two dimensions; ways there and back differ, and so do times and distances.
func town() api.Problem {
	return api.Problem{
		Dims: 2,
		Time: square(4, 0, 7, 12, 5, 8, 0, 6, 9, 11, 4, 0, 3, 13, 10, 2, 0),
		Dist: square(4, 0, 70, 110, 60, 81, 0, 52, 93, 117, 44, 0, 35, 128, 102, 23, 0),
		Vehicles: []api.Vehicle{
			{
				Start: 0, End: 3, Cap: []int{100, 200}, Skills: 7, Shift: api.Window{From: 20, To: 1000},
				Fixed: 1000, PerTime: 3, PerDist: 2, MaxTasks: 12,
				Breaks: []api.Break{{Windows: always(), Service: 15}, {Windows: always(), Service: 25}},
			},
			{
				Start: 1, End: 1, Cap: []int{40, 50}, Skills: 5, Shift: api.Window{From: 0, To: 300},
				Fixed: 10, PerTime: 30, PerDist: 4, MaxTasks: 3,
				Breaks: []api.Break{{Windows: spans(50, 60), Service: 10}},
			},
			{Start: 2, End: 0, Cap: []int{60, 60}, Skills: 7, Shift: api.Window{From: 1, To: 400}, PerTime: 1, MaxTasks: 2},
			{Start: 3, End: 2, Cap: []int{60, 60}, Skills: 7, Shift: api.Window{From: 0, To: 500}, PerDist: 1, MaxTasks: 12},
		},
		Jobs: []api.Job{
			{Stop: api.Stop{Place: 1, Service: 4, Windows: always()}, Drop: []int{1, 2}, Pick: []int{3, 5}, Skills: 1, Priority: 1},
			{Stop: api.Stop{Place: 2, Service: 6, Windows: always()}, Drop: []int{7, 11}, Pick: []int{0, 1}, Skills: 2, Priority: 2},
			{Stop: api.Stop{Place: 3, Service: 0, Windows: always()}, Drop: []int{0, 0}, Pick: []int{13, 17}, Priority: 3},
		},
		Shipments: []api.Shipment{
			{Pickup: api.Stop{Place: 2, Service: 3, Windows: always()}, Delivery: api.Stop{Place: 1, Service: 2, Windows: always()}, Amount: []int{19, 23}, Skills: 4, Priority: 4},
			{Pickup: api.Stop{Place: 0, Service: 1, Windows: always()}, Delivery: api.Stop{Place: 2, Service: 5, Windows: always()}, Amount: []int{29, 31}, Skills: 5, Priority: 5},
		},
	}
}

// drawnWindows: one up to four, the times of which are below 200.
func drawnWindows(r *rand.Rand) []api.Window {
	if r.Intn(3) > 0 {
		return spans(r.Intn(4), 100+r.Intn(90))
	}
	var l []api.Window
	from := r.Intn(30)
	for range 1 + r.Intn(4) {
		to := from + r.Intn(25)
		l = append(l, api.Window{From: from, To: to})
		from = to + 1 + r.Intn(18)
	}
	return l
}

// drawnMatrix: of small numbers, with ways that lack if so said.
func drawnMatrix(r *rand.Rand, n int, lack bool) api.Matrix {
	m := api.Matrix{N: n, Cells: make([]int, n*n)}
	for i := range m.Cells {
		m.Cells[i] = r.Intn(10)
		if lack && r.Intn(12) == 0 {
			m.Cells[i] = -1
		}
		if i/n == i%n {
			m.Cells[i] = 0
		}
	}
	return m
}

func drawnAmounts(r *rand.Rand, dims, below int) []int {
	a := make([]int, dims)
	for i := range a {
		a[i] = r.Intn(below)
	}
	return a
}

func drawnStop(r *rand.Rand, n int) api.Stop {
	return api.Stop{Place: r.Intn(n), Service: r.Intn(6), Windows: drawnWindows(r)}
}

func drawnVehicle(r *rand.Rand, n, dims int) api.Vehicle {
	from := r.Intn(10)
	car := api.Vehicle{
		Start: r.Intn(n), End: r.Intn(n), Cap: drawnAmounts(r, dims, 10), Skills: 7,
		Shift: api.Window{From: from, To: from + 20 + r.Intn(180)},
		Fixed: r.Intn(2) * r.Intn(20), PerTime: r.Intn(4), PerDist: r.Intn(3), MaxTasks: 12,
	}
	for d := range car.Cap {
		car.Cap[d] += 3
	}
	if r.Intn(5) == 0 {
		car.Skills = uint64(r.Intn(8))
	}
	if r.Intn(5) == 0 {
		car.MaxTasks = r.Intn(5)
	}
	for range r.Intn(3) {
		car.Breaks = append(car.Breaks, api.Break{Windows: drawnWindows(r), Service: r.Intn(6)})
	}
	return car
}

// drawnProblem: a small one, of which everything may be short.
func drawnProblem(r *rand.Rand) api.Problem {
	n, dims := 1+r.Intn(5), r.Intn(4)
	lack := r.Intn(3) == 0
	p := api.Problem{Dims: dims, Time: drawnMatrix(r, n, lack), Dist: drawnMatrix(r, n, lack)}
	for range r.Intn(5) {
		p.Vehicles = append(p.Vehicles, drawnVehicle(r, n, dims))
	}
	for range r.Intn(6) {
		p.Jobs = append(p.Jobs, api.Job{Stop: drawnStop(r, n), Drop: drawnAmounts(r, dims, 4), Pick: drawnAmounts(r, dims, 4), Skills: 1 << r.Intn(3), Priority: r.Intn(101)})
	}
	for range r.Intn(4) {
		p.Shipments = append(p.Shipments, api.Shipment{Pickup: drawnStop(r, n), Delivery: drawnStop(r, n), Amount: drawnAmounts(r, dims, 5), Skills: 1 << r.Intn(3), Priority: r.Intn(101)})
	}
	return p
}

// drawnRight: a right solution: some of the tasks, each wherever it fits.
func drawnRight(r *rand.Rand, p api.Problem) api.Solution {
	var s api.Solution
	tasks := model.Tasks(p)
	r.Shuffle(len(tasks), func(i, j int) { tasks[i], tasks[j] = tasks[j], tasks[i] })
	for _, t := range tasks {
		if len(p.Vehicles) == 0 || r.Intn(8) == 0 {
			continue
		}
		vehicle := r.Intn(len(p.Vehicles))
		ways := seed.Ways(seed.Visits(s, vehicle), t)
		for range 6 {
			way := ways[r.Intn(len(ways))]
			if _, e := plan.Fit(p, vehicle, way); e == api.OK {
				s = seed.With(s, vehicle, way)
				break
			}
		}
	}
	return s
}

// drawnVisit: any, with a kind and an item that are there or near.
func drawnVisit(r *rand.Rand) api.Visit {
	return api.Visit{Kind: api.VisitKind(r.Intn(8)), Item: r.Intn(7) - 1}
}

// spoilt: a solution in which one thing or another was changed; it may be right still.
func spoilt(r *rand.Rand, s api.Solution) api.Solution {
	s = full(s)
	if len(s.Routes) == 0 || r.Intn(12) == 0 {
		return routes(slices.Insert(s.Routes, r.Intn(len(s.Routes)+1), route(r.Intn(6)-1, drawnVisit(r)))...)
	}
	i, j := r.Intn(len(s.Routes)), r.Intn(len(s.Routes))
	x := &s.Routes[i]
	n := len(x.Visits)
	switch r.Intn(11) {
	case 0:
		x.Vehicle = r.Intn(6) - 1
	case 1:
		x.Visits = nil
	case 2:
		s.Routes[i], s.Routes[j] = s.Routes[j], s.Routes[i]
	case 3:
		s.Routes = slices.Insert(s.Routes, j, s.Routes[i])
	case 4:
		x.Visits = slices.Insert(x.Visits, r.Intn(n+1), drawnVisit(r))
	case 5:
		x.Visits = x.Visits[:r.Intn(n+1)]
	case 6:
		if n > 0 {
			x.Visits[r.Intn(n)] = drawnVisit(r)
		}
	case 7:
		x.Visits = slices.Insert(x.Visits, r.Intn(n+1), job(r.Intn(5)))
	case 8:
		k := r.Intn(3)
		x.Visits = append(x.Visits, pickup(k), delivery(k))
	case 9:
		slices.Reverse(x.Visits)
	case 10:
		x.Visits = slices.Concat(x.Visits, s.Routes[j].Visits)
	}
	return s
}
