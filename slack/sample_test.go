package slack

import (
	"math/rand"
	"slices"
	"testing"

	"haulier/api"
	"haulier/model"
	"haulier/plan"
)

func job(i int) api.Visit      { return api.Visit{Kind: api.AtJob, Item: i} }
func pickup(i int) api.Visit   { return api.Visit{Kind: api.AtPickup, Item: i} }
func delivery(i int) api.Visit { return api.Visit{Kind: api.AtDelivery, Item: i} }
func pause(i int) api.Visit    { return api.Visit{Kind: api.AtBreak, Item: i} }

// list: visits, one behind the other.
func list(l ...api.Visit) []api.Visit { return l }

// spans: windows from pairs of numbers.
func spans(ends ...int) []api.Window {
	var l []api.Window
	for i := 0; i+1 < len(ends); i += 2 {
		l = append(l, api.Window{From: ends[i], To: ends[i+1]})
	}
	return l
}

// always: a window that is never missed.
func always() []api.Window { return spans(0, 1000000) }

func rests(service int, ends ...int) api.Break {
	return api.Break{Windows: spans(ends...), Service: service}
}

// square: a matrix of rows that are written one behind the other.
func square(n int, cells ...int) api.Matrix { return api.Matrix{N: n, Cells: cells} }

// planned: the plan of visits, breaks among them, which must be one.
func planned(t *testing.T, p api.Problem, visits ...api.Visit) api.Plan {
	t.Helper()
	if e := model.Check(p); e != api.OK {
		t.Fatalf("the test's own problem is none: %d: %+v", e, p)
	}
	x, e := plan.Of(p, 0, visits)
	if e != api.OK {
		t.Fatalf("the test's own visits are no plan: %d: %v of %+v", e, visits, p)
	}
	return x
}

// line: the chapter's example: two places 10 apart, a vehicle there and back within the shift, a job at the second one that takes 5.
func line(to int, windows []api.Window, breaks ...api.Break) api.Problem {
	m := square(2, 0, 10, 10, 0)
	return api.Problem{
		Time: m, Dist: m,
		Vehicles: []api.Vehicle{{Shift: api.Window{To: to}, PerTime: 1, MaxTasks: 1, Breaks: breaks}},
		Jobs:     []api.Job{{Stop: api.Stop{Place: 1, Service: 5, Windows: windows}}},
	}
}

// town: four places, a vehicle with two breaks, three jobs and two shipments; ways there and back differ, and so do times and distances.
func town() api.Problem {
	return api.Problem{
		Dims: 1,
		Time: square(4, 0, 7, 12, 5, 8, 0, 6, 9, 11, 4, 0, 3, 13, 10, 2, 0),
		Dist: square(4, 0, 70, 110, 60, 81, 0, 52, 93, 117, 44, 0, 35, 128, 102, 23, 0),
		Vehicles: []api.Vehicle{{
			Start: 0, End: 3, Cap: []int{100}, Shift: api.Window{From: 20, To: 1000},
			Fixed: 1000, PerTime: 3, PerDist: 2, MaxTasks: 12,
			Breaks: []api.Break{{Windows: always(), Service: 15}, {Windows: always(), Service: 25}},
		}},
		Jobs: []api.Job{
			{Stop: api.Stop{Place: 1, Service: 4, Windows: always()}, Drop: []int{1}, Pick: []int{3}},
			{Stop: api.Stop{Place: 2, Service: 6, Windows: always()}, Drop: []int{7}, Pick: []int{0}},
			{Stop: api.Stop{Place: 3, Service: 0, Windows: always()}, Drop: []int{0}, Pick: []int{13}},
		},
		Shipments: []api.Shipment{
			{Pickup: api.Stop{Place: 2, Service: 3, Windows: always()}, Delivery: api.Stop{Place: 1, Service: 2, Windows: always()}, Amount: []int{19}},
			{Pickup: api.Stop{Place: 0, Service: 1, Windows: always()}, Delivery: api.Stop{Place: 2, Service: 5, Windows: always()}, Amount: []int{29}},
		},
	}
}

// tour: all of the town's visits, its breaks among them.
func tour() []api.Visit {
	return list(pickup(1), job(0), pause(0), pickup(0), job(1), delivery(1), pause(1), job(2), delivery(0))
}

// beyond: numbers of none of so many.
func beyond(n int) []int {
	return []int{n, n + 1, n + 7, -1, -2, -n - 1, 256 + n, 1 << 16, 1 << 32, -1 << 32, 1 << 62, -1 << 62, -1 << 63, 1<<63 - 1}
}

// far: the drawn windows and shifts all end ahead of it.
const far = 320

// sooner: the first time from this one on within a window, asked time by time.
func sooner(l []api.Window, from int) (int, bool) {
	for at := from; at < far; at++ {
		for _, w := range l {
			if w.From <= at && at <= w.To {
				return at, true
			}
		}
	}
	return 0, false
}

// stops: those of a vehicle's start, its visits, its end, asked of the problem alone.
func stops(p api.Problem, vehicle int, visits []api.Visit) []api.Stop {
	car := p.Vehicles[vehicle]
	l := []api.Stop{{Place: car.Start}}
	for i, v := range visits {
		switch v.Kind {
		case api.AtJob:
			l = append(l, p.Jobs[v.Item].Stop)
		case api.AtPickup:
			l = append(l, p.Shipments[v.Item].Pickup)
		case api.AtDelivery:
			l = append(l, p.Shipments[v.Item].Delivery)
		case api.AtBreak:
			l = append(l, api.Stop{Place: l[i].Place, Service: car.Breaks[v.Item].Service, Windows: car.Breaks[v.Item].Windows})
		}
	}
	return append(l, api.Stop{Place: car.End})
}

// driven: when one comes to the end, if one comes to the i-th of the stops (leaves the first one) at this time, and whether all is in time then.
func driven(p api.Problem, vehicle int, l []api.Stop, i, at int) (int, bool) {
	for ; i < len(l)-1; i++ {
		if i > 0 {
			begin, there := sooner(l[i].Windows, at)
			if !there {
				return 0, false
			}
			at = begin + l[i].Service
		}
		at += p.Time.Cells[l[i].Place*p.Time.N+l[i+1].Place]
	}
	if at > p.Vehicles[vehicle].Shift.To {
		return 0, false
	}
	return at, true
}

// drawnWindows: one up to four, the times of which are below 200.
func drawnWindows(r *rand.Rand) []api.Window {
	if r.Intn(2) == 0 {
		return spans(r.Intn(4), 100+r.Intn(90))
	}
	var l []api.Window
	from := r.Intn(30)
	for range 1 + r.Intn(4) {
		to := from + r.Intn(25)
		l = append(l, api.Window{From: from, To: to})
		from = to + 1 + r.Intn(18)
	}
	return l
}

// drawnMatrix: of small numbers, with ways that lack if so said.
func drawnMatrix(r *rand.Rand, n int, lack bool) api.Matrix {
	m := api.Matrix{N: n, Cells: make([]int, n*n)}
	for i := range m.Cells {
		m.Cells[i] = r.Intn(13)
		if lack && r.Intn(12) == 0 {
			m.Cells[i] = -1
		}
		if i/n == i%n {
			m.Cells[i] = 0
		}
	}
	return m
}

func drawnStop(r *rand.Rand, n int) api.Stop {
	return api.Stop{Place: r.Intn(n), Service: r.Intn(6), Windows: drawnWindows(r)}
}

// drawnProblem: a small one, of which only times are short.
func drawnProblem(r *rand.Rand) api.Problem {
	n := 1 + r.Intn(4)
	lack := r.Intn(3) == 0
	p := api.Problem{Time: drawnMatrix(r, n, lack), Dist: drawnMatrix(r, n, lack)}
	for range 1 + r.Intn(3) {
		from := r.Intn(10)
		car := api.Vehicle{Start: r.Intn(n), End: r.Intn(n), Shift: api.Window{From: from, To: from + 20 + r.Intn(180)}, MaxTasks: 12}
		for range r.Intn(3) {
			car.Breaks = append(car.Breaks, api.Break{Windows: drawnWindows(r), Service: r.Intn(6)})
		}
		p.Vehicles = append(p.Vehicles, car)
	}
	for range r.Intn(5) {
		p.Jobs = append(p.Jobs, api.Job{Stop: drawnStop(r, n)})
	}
	for range r.Intn(3) {
		p.Shipments = append(p.Shipments, api.Shipment{Pickup: drawnStop(r, n), Delivery: drawnStop(r, n)})
	}
	return p
}

// drawnRoute: visits of some of the tasks, pickups ahead of deliveries, without breaks.
func drawnRoute(r *rand.Rand, p api.Problem) []api.Visit {
	var l []api.Visit
	for i := range p.Jobs {
		if r.Intn(3) > 0 {
			l = slices.Insert(l, r.Intn(len(l)+1), job(i))
		}
	}
	for i := range p.Shipments {
		if r.Intn(3) > 0 {
			at := r.Intn(len(l) + 1)
			l = slices.Insert(l, at, pickup(i))
			l = slices.Insert(l, at+1+r.Intn(len(l)-at), delivery(i))
		}
	}
	return l
}

// drawn is a problem, and a plan of visits, breaks among them.
type drawn struct {
	p      api.Problem
	x      api.Plan
	visits []api.Visit
}

// drawnPlans: of drawn problems, vehicles and routes all for which there is a plan; of every other one the breaks are set in at drawn places, of the others as Fit does.
func drawnPlans(seed int64, tries int) []drawn {
	r := rand.New(rand.NewSource(seed))
	var l []drawn
	for i := range tries {
		p := drawnProblem(r)
		vehicle, route := r.Intn(len(p.Vehicles)), drawnRoute(r, p)
		at := make([]int, len(p.Vehicles[vehicle].Breaks))
		for k := range at {
			at[k] = r.Intn(len(route) + 1)
		}
		slices.Sort(at)
		x, e := plan.Of(p, vehicle, plan.Set(route, at))
		if i%2 == 0 {
			x, e = plan.Fit(p, vehicle, route)
		}
		if e != api.OK {
			continue
		}
		d := drawn{p: p, x: x}
		for _, s := range x.Steps[1 : len(x.Steps)-1] {
			d.visits = append(d.visits, s.Visit)
		}
		l = append(l, d)
	}
	return l
}
