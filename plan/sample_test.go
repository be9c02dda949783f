package plan

import (
	"math/rand"
	"reflect"
	"slices"
	"testing"

	"haulier/api"
	"haulier/model"
)

func job(i int) api.Visit      { return api.Visit{Kind: api.AtJob, Item: i} }
func pickup(i int) api.Visit   { return api.Visit{Kind: api.AtPickup, Item: i} }
func delivery(i int) api.Visit { return api.Visit{Kind: api.AtDelivery, Item: i} }
func pause(i int) api.Visit    { return api.Visit{Kind: api.AtBreak, Item: i} }
func start() api.Visit         { return api.Visit{Kind: api.AtStart} }
func end() api.Visit           { return api.Visit{Kind: api.AtEnd} }

// list: visits, one behind the other.
func list(l ...api.Visit) []api.Visit { return l }

// spans: windows from pairs of numbers.
func spans(ends ...int) []api.Window {
	var l []api.Window
	for i := 0; i+1 < len(ends); i += 2 {
		l = append(l, api.Window{From: ends[i], To: ends[i+1]})
	}
	return l
}

// always: a window that is never missed.
func always() []api.Window { return spans(0, 1000000) }

// square: a matrix of rows that are written one behind the other.
func square(n int, cells ...int) api.Matrix { return api.Matrix{N: n, Cells: cells} }

// lawful: the tests hand in problems, unless they say otherwise.
func lawful(t *testing.T, p api.Problem) {
	t.Helper()
	if e := model.Check(p); e != api.OK {
		t.Fatalf("the test's own problem is none: %d: %+v", e, p)
	}
}

// same: equal figures; a list without elements is the same as nil.
func same(a, b api.Plan) bool {
	a, b = full(a), full(b)
	return reflect.DeepEqual(a, b)
}

// full: the plan with empty lists in place of nil.
func full(x api.Plan) api.Plan {
	x.Steps = append([]api.Step{}, x.Steps...)
	for i := range x.Steps {
		x.Steps[i].Load = append([]int{}, x.Steps[i].Load...)
	}
	return x
}

// answers: does Of answer this?
func answers(t *testing.T, what string, p api.Problem, vehicle int, visits []api.Visit, want api.Plan, e api.Errno) {
	t.Helper()
	lawful(t, p)
	if got, is := Of(p, vehicle, visits); is != e || !same(got, want) {
		t.Errorf("P13.1: %s: Of(%d, %v):\n%+v, %d, want\n%+v, %d", what, vehicle, visits, got, is, want, e)
	}
}

// tells: does Of answer this error, or none, and nothing beside an error?
func tells(t *testing.T, what string, p api.Problem, vehicle int, visits []api.Visit, e api.Errno) {
	t.Helper()
	lawful(t, p)
	got, is := Of(p, vehicle, visits)
	if is != e {
		t.Errorf("P13.1: %s: Of(%d, %v): %d, want %d", what, vehicle, visits, is, e)
	}
	if is != api.OK && !reflect.DeepEqual(got, api.Plan{}) {
		t.Errorf("R3: %s: Of(%d, %v): %+v beside %d", what, vehicle, visits, got, is)
	}
}

// fits: does Fit answer what Of does with the breaks at these places, and do they stand there?
func fits(t *testing.T, what string, p api.Problem, visits []api.Visit, at ...int) {
	t.Helper()
	lawful(t, p)
	got, e := Fit(p, 0, visits)
	if e != api.OK {
		t.Errorf("P13.4: %s: %d, want breaks at %v", what, e, at)
		return
	}
	var stand []int
	n := 0
	for _, s := range got.Steps[1 : len(got.Steps)-1] {
		if s.Visit.Kind == api.AtBreak {
			stand = append(stand, n)
		} else {
			n++
		}
	}
	if !slices.Equal(stand, at) {
		t.Errorf("P13.4: %s: breaks at %v, want %v", what, stand, at)
		return
	}
	if want, _ := Of(p, 0, Set(visits, at)); !same(got, want) {
		t.Errorf("P13.4: %s:\n%+v, want\n%+v", what, got, want)
	}
}

// kinds: numbers that are no kind of a task's visit, nor of a break.
func kinds() []api.VisitKind {
	return []api.VisitKind{0, api.AtStart, api.AtEnd, 7, 8, 255, 256, 257, 258, 259, 260, -1, -2, -4, 1 << 32, 1<<32 + 1, 1<<32 + 4, -1 << 63, 1<<63 - 1, 1 << 62}
}

// beyond: numbers of none of so many.
func beyond(n int) []int {
	return []int{n, n + 1, n + 7, -1, -2, -n - 1, 256, 1 << 16, 1 << 32, -1 << 32, 1 << 62, -1 << 62, -1 << 63, 1<<63 - 1}
}

// town: four places, a vehicle with two breaks, three jobs and two shipments, in two dimensions; every list of its visits that stands for its tasks, with the breaks, is in order, and nothing is short.
func town() api.Problem {
	return api.Problem{
		Dims: 2,
		Time: square(4, 0, 7, 12, 5, 8, 0, 6, 9, 11, 4, 0, 3, 13, 10, 2, 0),
		Dist: square(4, 0, 70, 110, 60, 81, 0, 52, 93, 117, 44, 0, 35, 128, 102, 23, 0),
		Vehicles: []api.Vehicle{{
			Start: 0, End: 3, Cap: []int{100, 200}, Skills: 7, Shift: api.Window{From: 20, To: 1000},
			Fixed: 1000, PerTime: 3, PerDist: 2, MaxTasks: 12,
			Breaks: []api.Break{{Windows: always(), Service: 15}, {Windows: always(), Service: 25}},
		}},
		Jobs: []api.Job{
			{Stop: api.Stop{Place: 1, Service: 4, Windows: always()}, Drop: []int{1, 2}, Pick: []int{3, 5}, Skills: 1, Priority: 1},
			{Stop: api.Stop{Place: 2, Service: 6, Windows: always()}, Drop: []int{7, 11}, Pick: []int{0, 1}, Skills: 2, Priority: 2},
			{Stop: api.Stop{Place: 3, Service: 0, Windows: always()}, Drop: []int{0, 0}, Pick: []int{13, 17}, Priority: 3},
		},
		Shipments: []api.Shipment{
			{Pickup: api.Stop{Place: 2, Service: 3, Windows: always()}, Delivery: api.Stop{Place: 1, Service: 2, Windows: always()}, Amount: []int{19, 23}, Skills: 4, Priority: 4},
			{Pickup: api.Stop{Place: 0, Service: 1, Windows: always()}, Delivery: api.Stop{Place: 2, Service: 5, Windows: always()}, Amount: []int{29, 31}, Skills: 5, Priority: 5},
		},
	}
}

// tour0: all of the town's visits, its breaks among them.
func tour0() []api.Visit {
	return list(pickup(1), job(0), pause(0), pickup(0), job(1), delivery(1), pause(1), job(2), delivery(0))
}

// sooner: the first time from this one on within a window, asked time by time; the drawn windows all end ahead of 400.
func sooner(l []api.Window, from int) (int, bool) {
	for at := from; at < 400; at++ {
		for _, w := range l {
			if w.From <= at && at <= w.To {
				return at, true
			}
		}
	}
	return 0, false
}

// paired: what ErrVisit asks of a list, word by word.
func paired(p api.Problem, visits []api.Visit) bool {
	where := func(v api.Visit) int { return slices.Index(visits, v) }
	for i, v := range visits {
		count := 0
		switch v.Kind {
		case api.AtBreak:
			continue
		case api.AtJob:
			count = len(p.Jobs)
		case api.AtPickup:
			count = len(p.Shipments)
			if where(delivery(v.Item)) < i {
				return false
			}
		case api.AtDelivery:
			count = len(p.Shipments)
			if at := where(pickup(v.Item)); at < 0 || at > i {
				return false
			}
		}
		if v.Item < 0 || v.Item >= count || where(v) != i {
			return false
		}
	}
	return true
}

// aboard: the loads of a list, each summed from its beginning on; of a list whose visits are all there.
func aboard(p api.Problem, visits []api.Visit) [][]int {
	var all [][]int
	for n := range len(visits) + 1 {
		l := make([]int, p.Dims)
		for d := range l {
			for i, v := range visits {
				done := i < n
				switch {
				case v.Kind == api.AtJob && !done:
					l[d] += p.Jobs[v.Item].Drop[d]
				case v.Kind == api.AtJob:
					l[d] += p.Jobs[v.Item].Pick[d]
				case v.Kind == api.AtPickup && done:
					l[d] += p.Shipments[v.Item].Amount[d]
				case v.Kind == api.AtDelivery && done:
					l[d] -= p.Shipments[v.Item].Amount[d]
				}
			}
		}
		all = append(all, l)
	}
	return all
}

// stopAt: a visit's stop, the vehicle being at this place.
func stopAt(p api.Problem, car api.Vehicle, v api.Visit, here int) api.Stop {
	switch v.Kind {
	case api.AtJob:
		return p.Jobs[v.Item].Stop
	case api.AtPickup:
		return p.Shipments[v.Item].Pickup
	case api.AtDelivery:
		return p.Shipments[v.Item].Delivery
	}
	return api.Stop{Place: here, Service: car.Breaks[v.Item].Service, Windows: car.Breaks[v.Item].Windows}
}

// unfit: the first of the errors up to ErrLoad, as the chapter's words say.
func unfit(p api.Problem, vehicle int, visits []api.Visit) api.Errno {
	if vehicle < 0 || vehicle >= len(p.Vehicles) {
		return api.ErrVehicle
	}
	if !paired(p, visits) {
		return api.ErrVisit
	}
	car := p.Vehicles[vehicle]
	var breaks, want []int
	for _, v := range visits {
		if v.Kind == api.AtBreak {
			breaks = append(breaks, v.Item)
		}
	}
	for i := range car.Breaks {
		want = append(want, i)
	}
	if !slices.Equal(breaks, want) {
		return api.ErrBreak
	}
	tasks, skills := 0, uint64(0)
	for _, v := range visits {
		switch v.Kind {
		case api.AtJob:
			tasks++
			skills |= p.Jobs[v.Item].Skills
		case api.AtPickup:
			tasks++
			skills |= p.Shipments[v.Item].Skills
		}
	}
	if skills|car.Skills != car.Skills {
		return api.ErrSkill
	}
	if tasks > car.MaxTasks {
		return api.ErrTasks
	}
	for _, l := range aboard(p, visits) {
		for d := range l {
			if l[d] > car.Cap[d] {
				return api.ErrLoad
			}
		}
	}
	return api.OK
}

// reckoned: what the chapter's words make of a vehicle and its visits.
func reckoned(p api.Problem, vehicle int, visits []api.Visit) (api.Plan, api.Errno) {
	if e := unfit(p, vehicle, visits); e != api.OK {
		return api.Plan{}, e
	}
	car, loads := p.Vehicles[vehicle], aboard(p, visits)
	x := api.Plan{Vehicle: vehicle, Steps: []api.Step{{Visit: start(), Place: car.Start, Arrival: car.Shift.From, Load: loads[0]}}}
	left, late := car.Shift.From, false
	for i, v := range append(slices.Clone(visits), end()) {
		last := x.Steps[i]
		stop := api.Stop{Place: car.End}
		if i < len(visits) {
			stop = stopAt(p, car, v, last.Place)
		}
		time, dist := p.Time.Cells[last.Place*p.Time.N+stop.Place], p.Dist.Cells[last.Place*p.Dist.N+stop.Place]
		if time == -1 || dist == -1 {
			return api.Plan{}, api.ErrTravel
		}
		step := api.Step{Visit: v, Place: stop.Place, Arrival: left + time, Load: loads[min(i+1, len(visits))], Time: last.Time + time, Dist: last.Dist + dist}
		if i < len(visits) {
			begin, there := sooner(stop.Windows, step.Arrival)
			late = late || !there
			step.Wait, step.Service = begin-step.Arrival, stop.Service
			left = begin + stop.Service
		} else {
			late = late || step.Arrival > car.Shift.To
		}
		x.Steps = append(x.Steps, step)
		x.Time, x.Dist, x.Wait, x.Service = step.Time, step.Dist, x.Wait+step.Wait, x.Service+step.Service
	}
	if late {
		return api.Plan{}, api.ErrTime
	}
	x.Cost = car.Fixed + x.Time*car.PerTime + x.Dist*car.PerDist
	return x, api.OK
}

// drawnWindows: one up to four, the times of which are below 200.
func drawnWindows(r *rand.Rand) []api.Window {
	if r.Intn(2) == 0 {
		return spans(r.Intn(4), 100+r.Intn(90))
	}
	var l []api.Window
	from := r.Intn(30)
	for range 1 + r.Intn(4) {
		to := from + r.Intn(14)
		l = append(l, api.Window{From: from, To: to})
		from = to + 1 + r.Intn(18)
	}
	return l
}

// drawnMatrix: of small numbers, with ways that lack if so said.
func drawnMatrix(r *rand.Rand, n int, lack bool) api.Matrix {
	m := api.Matrix{N: n, Cells: make([]int, n*n)}
	for i := range m.Cells {
		m.Cells[i] = r.Intn(13)
		if lack && r.Intn(12) == 0 {
			m.Cells[i] = -1
		}
		if i/n == i%n {
			m.Cells[i] = 0
		}
	}
	return m
}

func drawnAmounts(r *rand.Rand, dims, below int) []int {
	a := make([]int, dims)
	for i := range a {
		a[i] = r.Intn(below)
	}
	return a
}

func drawnStop(r *rand.Rand, n int) api.Stop {
	return api.Stop{Place: r.Intn(n), Service: r.Intn(6), Windows: drawnWindows(r)}
}

// drawnProblem: a small one.
func drawnProblem(r *rand.Rand) api.Problem {
	n, dims := 1+r.Intn(4), r.Intn(4)
	lack := r.Intn(3) == 0
	p := api.Problem{Dims: dims, Time: drawnMatrix(r, n, lack), Dist: drawnMatrix(r, n, lack)}
	for range 1 + r.Intn(3) {
		car := api.Vehicle{
			Start: r.Intn(n), End: r.Intn(n), Cap: drawnAmounts(r, dims, 3), Skills: 1<<62 - 1,
			Fixed: r.Intn(50), PerTime: r.Intn(5), PerDist: r.Intn(5), MaxTasks: 12,
		}
		for d := range car.Cap {
			car.Cap[d] += 3 + r.Intn(12)
		}
		from := r.Intn(10)
		car.Shift = api.Window{From: from, To: from + 20 + r.Intn(180)}
		if r.Intn(6) == 0 {
			car.Skills = uint64(r.Intn(8))
		}
		if r.Intn(6) == 0 {
			car.MaxTasks = r.Intn(5)
		}
		for range r.Intn(3) {
			car.Breaks = append(car.Breaks, api.Break{Windows: drawnWindows(r), Service: r.Intn(6)})
		}
		p.Vehicles = append(p.Vehicles, car)
	}
	for range r.Intn(5) {
		p.Jobs = append(p.Jobs, api.Job{Stop: drawnStop(r, n), Drop: drawnAmounts(r, dims, 4), Pick: drawnAmounts(r, dims, 4), Skills: 1 << r.Intn(3), Priority: r.Intn(101)})
	}
	for range r.Intn(3) {
		p.Shipments = append(p.Shipments, api.Shipment{Pickup: drawnStop(r, n), Delivery: drawnStop(r, n), Amount: drawnAmounts(r, dims, 5), Skills: 1 << r.Intn(3), Priority: r.Intn(101)})
	}
	return p
}

// drawnRoute: visits of some of the tasks, pickups ahead of deliveries, without breaks.
func drawnRoute(r *rand.Rand, p api.Problem) []api.Visit {
	var l []api.Visit
	for i := range p.Jobs {
		if r.Intn(3) > 0 {
			l = slices.Insert(l, r.Intn(len(l)+1), job(i))
		}
	}
	for i := range p.Shipments {
		if r.Intn(3) > 0 {
			at := r.Intn(len(l) + 1)
			l = slices.Insert(l, at, pickup(i))
			l = slices.Insert(l, at+1+r.Intn(len(l)-at), delivery(i))
		}
	}
	return l
}

// drawnPlaces: as many places of breaks, which don't fall.
func drawnPlaces(r *rand.Rand, breaks, visits int) []int {
	at := make([]int, breaks)
	for i := range at {
		at[i] = r.Intn(visits + 1)
	}
	slices.Sort(at)
	return at
}

// spoilt: a list with something drawn taken away, put in, changed or swapped.
func spoilt(r *rand.Rand, visits []api.Visit) []api.Visit {
	l := slices.Clone(visits)
	any := api.Visit{Kind: api.VisitKind(r.Intn(8)), Item: r.Intn(6) - 1}
	switch {
	case len(l) == 0 || r.Intn(4) == 0:
		return slices.Insert(l, r.Intn(len(l)+1), any)
	case r.Intn(3) == 0:
		i := r.Intn(len(l))
		return slices.Delete(l, i, i+1)
	case r.Intn(2) == 0:
		l[r.Intn(len(l))] = any
		return l
	}
	i, j := r.Intn(len(l)), r.Intn(len(l))
	l[i], l[j] = l[j], l[i]
	return l
}
