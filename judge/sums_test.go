package judge_test

import (
	"math/rand"
	"testing"

	"haulier/api"
	"haulier/judge"
)

// planned4: the plans of the routes of four, by hand.
func planned4() []api.Plan {
	return []api.Plan{
		{
			Vehicle: 0, Time: 15, Dist: 145, Service: 46, Cost: 1000 + 3*15 + 2*145,
			Steps: []api.Step{
				{Visit: start(), Place: 0, Arrival: 20, Load: []int{7, 11}},
				{Visit: pause(0), Place: 0, Arrival: 20, Service: 15, Load: []int{7, 11}},
				{Visit: pause(1), Place: 0, Arrival: 35, Service: 25, Load: []int{7, 11}},
				{Visit: job(1), Place: 2, Arrival: 72, Service: 6, Load: []int{0, 1}, Time: 12, Dist: 110},
				{Visit: end(), Place: 3, Arrival: 81, Load: []int{0, 1}, Time: 15, Dist: 145},
			},
		},
		{
			Vehicle: 1, Wait: 50, Service: 14, Cost: 10,
			Steps: []api.Step{
				{Visit: start(), Place: 1, Load: []int{1, 2}},
				{Visit: pause(0), Place: 1, Wait: 50, Service: 10, Load: []int{1, 2}},
				{Visit: job(0), Place: 1, Arrival: 60, Service: 4, Load: []int{3, 5}},
				{Visit: end(), Place: 1, Arrival: 64, Load: []int{3, 5}},
			},
		},
		{
			Vehicle: 2, Time: 34, Dist: 344, Service: 6, Cost: 34,
			Steps: []api.Step{
				{Visit: start(), Place: 2, Arrival: 1, Load: []int{0, 0}},
				{Visit: pickup(1), Place: 0, Arrival: 12, Service: 1, Load: []int{29, 31}, Time: 11, Dist: 117},
				{Visit: delivery(1), Place: 2, Arrival: 25, Service: 5, Load: []int{0, 0}, Time: 23, Dist: 227},
				{Visit: end(), Place: 0, Arrival: 41, Load: []int{0, 0}, Time: 34, Dist: 344},
			},
		},
		{
			Vehicle: 3, Time: 21, Dist: 212, Service: 5, Cost: 212,
			Steps: []api.Step{
				{Visit: start(), Place: 3, Load: []int{0, 0}},
				{Visit: pickup(0), Place: 2, Arrival: 2, Service: 3, Load: []int{19, 23}, Time: 2, Dist: 23},
				{Visit: job(2), Place: 3, Arrival: 8, Load: []int{32, 40}, Time: 5, Dist: 58},
				{Visit: delivery(0), Place: 1, Arrival: 18, Service: 2, Load: []int{13, 17}, Time: 15, Dist: 160},
				{Visit: end(), Place: 2, Arrival: 26, Load: []int{13, 17}, Time: 21, Dist: 212},
			},
		},
	}
}

// plans: does Plans answer these?
func plans(t *testing.T, what string, p api.Problem, s api.Solution, want ...api.Plan) {
	t.Helper()
	lawful(t, p)
	if got, e := judge.Plans(p, s); e != api.OK || !alike(got, want) {
		t.Errorf("P20.2: %s: Plans(%v):\n%+v, %d, want\n%+v", what, s, got, e, want)
	}
}

// sums: does Sums answer these?
func sums(t *testing.T, what string, p api.Problem, s api.Solution, want api.Sums) {
	t.Helper()
	lawful(t, p)
	if got, e := judge.Sums(p, s); e != api.OK || got != want {
		t.Errorf("P20.2: %s: Sums(%v):\n%+v, %d, want\n%+v", what, s, got, e, want)
	}
}

// TestPlans: each route's, in their order, by hand.
func TestPlans(t *testing.T) {
	plans(t, "the empty solution", town(), api.Solution{})
	plans(t, "chapter 13", line(), routes(route(0, job(0))), api.Plan{
		Time: 20, Dist: 20, Wait: 20, Service: 5, Cost: 20,
		Steps: []api.Step{
			{Visit: start()},
			{Visit: job(0), Place: 1, Arrival: 10, Wait: 20, Service: 5, Time: 10, Dist: 10},
			{Visit: end(), Arrival: 45, Time: 20, Dist: 20},
		},
	})
	l, want := four(), planned4()
	plans(t, "four", town(), routes(l...), want...)
	for i := range l {
		plans(t, "one", town(), routes(l[i]), want[i])
		for k := i + 1; k < len(l); k++ {
			plans(t, "two", town(), routes(l[i], l[k]), want[i], want[k])
		}
	}
}

// TestSums: by hand.
func TestSums(t *testing.T) {
	p, l := town(), four()
	sums(t, "the empty solution", p, api.Solution{}, api.Sums{Left: 5})
	sums(t, "no tasks", api.Problem{Time: square(1, 0), Dist: square(1, 0)}, api.Solution{}, api.Sums{})
	sums(t, "the first", p, routes(l[0]), api.Sums{Routes: 1, Value: 2, Cost: 1335, Time: 15, Dist: 145, Service: 46, Left: 4})
	sums(t, "the second", p, routes(l[1]), api.Sums{Routes: 1, Value: 1, Cost: 10, Wait: 50, Service: 14, Left: 4})
	sums(t, "the third", p, routes(l[2]), api.Sums{Routes: 1, Value: 5, Cost: 34, Time: 34, Dist: 344, Service: 6, Left: 4})
	sums(t, "the fourth", p, routes(l[3]), api.Sums{Routes: 1, Value: 7, Cost: 212, Time: 21, Dist: 212, Service: 5, Left: 3})
	sums(t, "four", p, routes(l...), api.Sums{Routes: 4, Value: 15, Cost: 1591, Time: 70, Dist: 701, Wait: 50, Service: 71})
	sums(t, "chapter 13", line(), routes(route(0, job(0))), api.Sums{Routes: 1, Value: 1, Cost: 20, Time: 20, Dist: 20, Wait: 20, Service: 5})
	p.Jobs[2].Priority, p.Shipments[0].Priority = 0, 100
	sums(t, "by priority", p, routes(l[0], l[3]), api.Sums{Routes: 2, Value: 102, Cost: 1547, Time: 36, Dist: 357, Service: 51, Left: 2})
	p.Vehicles[1].Shift.From, p.Vehicles[1].Breaks[0].Windows, p.Jobs[0].Stop.Windows = 30, spans(0, 10, 40, 40), spans(70, 80)
	sums(t, "several waits", p, routes(l[1]), api.Sums{Routes: 1, Value: 1, Cost: 10, Wait: 10 + 20, Service: 14, Left: 4})
	twice := line()
	twice.Vehicles = append(twice.Vehicles, twice.Vehicles[0])
	twice.Jobs = append(twice.Jobs, twice.Jobs[0])
	sums(t, "waits of two routes", twice, routes(route(0, job(0)), route(1, job(1))), api.Sums{Routes: 2, Value: 2, Cost: 40, Time: 40, Dist: 40, Wait: 40, Service: 10})
}

// TestSumsGreat: the greatest figures that may be are exact.
func TestSumsGreat(t *testing.T) {
	const far, most = 32000000, 1000000
	p := api.Problem{Time: square(2, 0, 0, 0, 0), Dist: square(2, 0, far, far, 0)}
	var s api.Solution
	for i := range 12 {
		p.Shipments = append(p.Shipments, api.Shipment{Pickup: stop(1), Delivery: stop(0), Priority: 100})
		if i%3 == 0 {
			p.Vehicles = append(p.Vehicles, api.Vehicle{Shift: api.Window{To: most}, Fixed: most, PerTime: most, PerDist: most, MaxTasks: 12})
			s.Routes = append(s.Routes, route(i/3))
		}
		s.Routes[i/3].Visits = append(s.Routes[i/3].Visits, pickup(i), delivery(i))
	}
	sums(t, "far", p, s, api.Sums{Routes: 4, Value: 1200, Cost: 4*most + 24*far*most, Dist: 24 * far})
	for i := range p.Shipments {
		p.Shipments[i].Delivery.Service = most / 4
	}
	for i := range s.Routes {
		p.Vehicles[i].End = 1
		p.Shipments[3*i].Pickup.Windows = spans(most/4, most/4)
	}
	sums(t, "long", p, s, api.Sums{Routes: 4, Value: 1200, Cost: 4*most + 28*far*most, Dist: 28 * far, Wait: most, Service: 3 * most})
}

// TestDrawn: plans and sums of drawn right solutions, against the document's words.
func TestDrawn(t *testing.T) {
	r := rand.New(rand.NewSource(203))
	driven := 0
	for range 6000 {
		p := drawnProblem(r)
		s := drawnRight(r, p)
		want, _, e := judged(p, s)
		if e != api.OK {
			t.Fatalf("the test's own solution isn't right: %d: %+v", e, s)
		}
		plans(t, "drawn", p, s, want...)
		sums(t, "drawn", p, s, summed(p, want))
		if len(s.Routes) > 1 {
			driven++
		}
	}
	if driven < 1500 {
		t.Errorf("only %d of the drawn solutions have two routes", driven)
	}
}
