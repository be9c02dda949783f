package exact_test

import (
	"math/rand"
	"slices"
	"testing"

	"haulier/api"
	"haulier/drive"
	"haulier/model"
	"haulier/plan"
)

func job(i int) api.Visit      { return api.Visit{Kind: api.AtJob, Item: i} }
func pickup(i int) api.Visit   { return api.Visit{Kind: api.AtPickup, Item: i} }
func delivery(i int) api.Visit { return api.Visit{Kind: api.AtDelivery, Item: i} }

// list: visits, one behind the other.
func list(l ...api.Visit) []api.Visit { return l }

// spans: windows from pairs of numbers.
func spans(ends ...int) []api.Window {
	var l []api.Window
	for i := 0; i+1 < len(ends); i += 2 {
		l = append(l, api.Window{From: ends[i], To: ends[i+1]})
	}
	return l
}

// always: a window that is never missed.
func always() []api.Window { return spans(0, 1000000) }

// square: a matrix of rows that are written one behind the other.
func square(n int, cells ...int) api.Matrix { return api.Matrix{N: n, Cells: cells} }

// lawful: the tests hand in problems, unless they say otherwise.
func lawful(t *testing.T, p api.Problem) {
	t.Helper()
	if e := model.Check(p); e != api.OK {
		t.Fatalf("the test's own problem is none: %d: %+v", e, p)
	}
}

// same: equal routes; a list without elements is the same as nil.
func same(a, b api.Solution) bool {
	return slices.EqualFunc(a.Routes, b.Routes, func(x, y api.Route) bool {
		return x.Vehicle == y.Vehicle && slices.Equal(x.Visits, y.Visits)
	})
}

// stop: a stop without service that is always open.
func stop(place int) api.Stop { return api.Stop{Place: place, Windows: always()} }

// street: so many places, 10 apart from each other, in a row.
func street(n int) api.Matrix {
	m := api.Matrix{N: n}
	for i := range n {
		for j := range n {
			m.Cells = append(m.Cells, 10*max(i-j, j-i))
		}
	}
	return m
}

// car: a vehicle from a place and back to it, which pays for its time alone.
func car(home int) api.Vehicle {
	return api.Vehicle{Start: home, End: home, Shift: api.Window{To: 1000000}, PerTime: 1, MaxTasks: 12}
}

// cars: so many vehicles.
func cars(n int) []api.Vehicle { return slices.Repeat([]api.Vehicle{car(0)}, n) }

// village: a street of nine places, a vehicle at its first one, and jobs of priority 1, always open, at some of them.
func village(places ...int) api.Problem {
	p := api.Problem{Time: street(9), Dist: street(9), Vehicles: cars(1)}
	for _, place := range places {
		p.Jobs = append(p.Jobs, api.Job{Stop: stop(place), Priority: 1})
	}
	return p
}

// town: four places, a vehicle with breaks, three jobs and two shipments in two dimensions; ways there and back differ, and so do times and distances.
func town() api.Problem {
	return api.Problem{
		Dims: 2,
		Time: square(4, 0, 7, 12, 5, 8, 0, 6, 9, 11, 4, 0, 3, 13, 10, 2, 0),
		Dist: square(4, 0, 70, 110, 60, 81, 0, 52, 93, 117, 44, 0, 35, 128, 102, 23, 0),
		Vehicles: []api.Vehicle{
			{
				Start: 0, End: 3, Cap: []int{50, 60}, Skills: 7, Shift: api.Window{From: 20, To: 1000},
				Fixed: 1000, PerTime: 3, PerDist: 2, MaxTasks: 12,
				Breaks: []api.Break{{Windows: always(), Service: 15}, {Windows: always(), Service: 25}},
			},
		},
		Jobs: []api.Job{
			{Stop: api.Stop{Place: 1, Service: 4, Windows: always()}, Drop: []int{1, 2}, Pick: []int{3, 5}, Skills: 1, Priority: 1},
			{Stop: api.Stop{Place: 2, Service: 6, Windows: always()}, Drop: []int{7, 11}, Pick: []int{0, 1}, Skills: 2, Priority: 2},
			{Stop: api.Stop{Place: 3, Service: 0, Windows: always()}, Drop: []int{0, 0}, Pick: []int{13, 17}, Priority: 3},
		},
		Shipments: []api.Shipment{
			{Pickup: api.Stop{Place: 2, Service: 3, Windows: always()}, Delivery: api.Stop{Place: 1, Service: 2, Windows: always()}, Amount: []int{19, 23}, Skills: 4, Priority: 4},
			{Pickup: api.Stop{Place: 0, Service: 1, Windows: always()}, Delivery: api.Stop{Place: 2, Service: 5, Windows: always()}, Amount: []int{29, 31}, Skills: 5, Priority: 5},
		},
	}
}

// drawnWindows: one up to four, the times of which are below 200.
func drawnWindows(r *rand.Rand) []api.Window {
	if r.Intn(3) > 0 {
		return spans(r.Intn(4), 30+r.Intn(90))
	}
	var l []api.Window
	from := r.Intn(30)
	for range 1 + r.Intn(4) {
		to := from + r.Intn(25)
		l = append(l, api.Window{From: from, To: to})
		from = to + 1 + r.Intn(18)
	}
	return l
}

// drawnMatrix: of small numbers, with ways that lack if so said.
func drawnMatrix(r *rand.Rand, n int, lack bool) api.Matrix {
	m := api.Matrix{N: n, Cells: make([]int, n*n)}
	for i := range m.Cells {
		m.Cells[i] = r.Intn(20)
		if lack && r.Intn(6) == 0 {
			m.Cells[i] = -1
		}
		if i/n == i%n {
			m.Cells[i] = 0
		}
	}
	return m
}

func drawnAmounts(r *rand.Rand, dims, below int) []int {
	a := make([]int, dims)
	for i := range a {
		a[i] = r.Intn(below)
	}
	return a
}

func drawnStop(r *rand.Rand, n int) api.Stop {
	return api.Stop{Place: r.Intn(n), Service: r.Intn(6), Windows: drawnWindows(r)}
}

func drawnVehicle(r *rand.Rand, n, dims int) api.Vehicle {
	from := r.Intn(10)
	car := api.Vehicle{
		Start: r.Intn(n), End: r.Intn(n), Cap: drawnAmounts(r, dims, 10), Skills: 7,
		Shift: api.Window{From: from, To: from + 20 + r.Intn(180)},
		Fixed: r.Intn(2) * r.Intn(20), PerTime: r.Intn(4), PerDist: r.Intn(3), MaxTasks: 12,
	}
	for d := range car.Cap {
		car.Cap[d] += 2
	}
	if r.Intn(5) == 0 {
		car.Skills = uint64(r.Intn(8))
	}
	if r.Intn(5) == 0 {
		car.MaxTasks = r.Intn(5)
	}
	for range r.Intn(3) * r.Intn(2) {
		car.Breaks = append(car.Breaks, api.Break{Windows: drawnWindows(r), Service: r.Intn(9)})
	}
	return car
}

// drawnPriority: often none, so that many a task is only driven if that is for nothing, or spares cost.
func drawnPriority(r *rand.Rand) int { return r.Intn(2) * r.Intn(4) }

// drawnProblem: a small one of so many visits, with a vehicle, of which everything may be short.
func drawnProblem(r *rand.Rand, visits int) api.Problem {
	n, dims := 1+r.Intn(5), r.Intn(4)
	lack := r.Intn(3) == 0
	p := api.Problem{Dims: dims, Time: drawnMatrix(r, n, lack), Dist: drawnMatrix(r, n, lack)}
	p.Vehicles = []api.Vehicle{drawnVehicle(r, n, dims)}
	for left := visits; left > 0; {
		if left > 1 && r.Intn(3) == 0 {
			p.Shipments = append(p.Shipments, api.Shipment{Pickup: drawnStop(r, n), Delivery: drawnStop(r, n), Amount: drawnAmounts(r, dims, 7), Skills: 1 << r.Intn(3), Priority: drawnPriority(r)})
			left -= 2
			continue
		}
		p.Jobs = append(p.Jobs, api.Job{Stop: drawnStop(r, n), Drop: drawnAmounts(r, dims, 5), Pick: drawnAmounts(r, dims, 5), Skills: 1 << r.Intn(3), Priority: drawnPriority(r)})
		left--
	}
	return p
}

// each: hands over every list of visits of whole tasks of a problem, each delivery behind its pickup; not the one without visits.
func each(p api.Problem, tell func(visits []api.Visit)) {
	var all []api.Visit
	for _, t := range model.Tasks(p) {
		all = append(all, model.Visits(t)...)
	}
	var on func(l []api.Visit, open int)
	on = func(l []api.Visit, open int) {
		if open == 0 && len(l) > 0 {
			tell(l)
		}
		for _, v := range all {
			if slices.Contains(l, v) || v.Kind == api.AtDelivery && !slices.Contains(l, pickup(v.Item)) {
				continue
			}
			switch v.Kind {
			case api.AtPickup:
				on(append(l, v), open+1)
			case api.AtDelivery:
				on(append(l, v), open-1)
			default:
				on(append(l, v), open)
			}
		}
	}
	on(nil, 0)
}

// most: the best score of all right solutions of a problem with one vehicle, and how many have it.
func most(p api.Problem) (api.Score, int) {
	best, n := api.Score{}, 1
	each(p, func(visits []api.Visit) {
		x, e := plan.Fit(p, 0, visits)
		if e != api.OK {
			return
		}
		score := api.Score{Value: value(p, visits), Cost: x.Cost}
		switch {
		case score == best:
			n++
		case score.Value > best.Value || score.Value == best.Value && score.Cost < best.Cost:
			best, n = score, 1
		}
	})
	return best, n
}

// value: the priorities of the tasks of these visits.
func value(p api.Problem, visits []api.Visit) int {
	sum := 0
	for _, v := range visits {
		switch v.Kind {
		case api.AtJob:
			sum += p.Jobs[v.Item].Priority
		case api.AtPickup:
			sum += p.Shipments[v.Item].Priority
		}
	}
	return sum
}

// scored: the score of a solution; it must be right.
func scored(t *testing.T, p api.Problem, s api.Solution) api.Score {
	t.Helper()
	switch {
	case len(s.Routes) > len(p.Vehicles):
		t.Fatalf("P19.2: %+v: more routes than vehicles: %v", p, s)
	case len(s.Routes) == 1 && s.Routes[0].Vehicle != 0:
		t.Fatalf("P19.2: %+v: no such vehicle: %v", p, s)
	case len(s.Routes) == 1 && len(s.Routes[0].Visits) == 0:
		t.Fatalf("P19.2: %+v: an empty route: %v", p, s)
	}
	score, e := drive.Score(p, s)
	if e != api.OK {
		t.Fatalf("P19.2: %+v: %v isn't right: %d", p, s, e)
	}
	return score
}
