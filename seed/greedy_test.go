package seed

import (
	"math/rand"
	"slices"
	"testing"

	"haulier/api"
	"haulier/model"
	"haulier/plan"
)

// greedily: does Greedy answer these routes?
func greedily(t *testing.T, what string, p api.Problem, want ...api.Route) {
	t.Helper()
	lawful(t, p)
	if got := Greedy(p); !same(got, routes(want...)) {
		t.Errorf("P15.3: %s: %v, want %v", what, got, want)
	}
}

// TestGreedyExample: two jobs 10 and 20 from the start on one line.
func TestGreedyExample(t *testing.T) {
	greedily(t, "the example", village(cars(0), 1, 2), route(0, job(1), job(0)))
	greedily(t, "the other way round", village(cars(0), 2, 1), route(0, job(1), job(0)))
	greedily(t, "two vehicles", village(cars(0, 0), 2, 1), route(0, job(1), job(0)))
}

func TestGreedyOfNothing(t *testing.T) {
	greedily(t, "no vehicle", village(nil, 1, 2))
	greedily(t, "no task", village(cars(0, 1)))
	greedily(t, "nothing", village(nil))
	p := village(cars(0, 8), 1, 2)
	p.Vehicles[0].MaxTasks, p.Vehicles[1].Shift.To = 0, 119
	greedily(t, "nothing fits", p)
}

// TestGreedyOrder: tasks come by falling priority, of equal ones jobs ahead of shipments, each rising: who comes first gets the place.
func TestGreedyOrder(t *testing.T) {
	p := village(cars(0), 1, 2, 3)
	p.Vehicles[0].MaxTasks = 1
	p.Shipments = []api.Shipment{{Pickup: stop(1), Delivery: stop(1)}, {Pickup: stop(1), Delivery: stop(2)}}
	greedily(t, "all alike", p, route(0, job(0)))
	p.Jobs[2].Priority = 1
	greedily(t, "a job", p, route(0, job(2)))
	p.Shipments[1].Priority = 1
	greedily(t, "a job as well", p, route(0, job(2)))
	p.Jobs[1].Priority = 1
	greedily(t, "a lesser job as well", p, route(0, job(1)))
	p.Shipments[1].Priority = 2
	greedily(t, "a shipment", p, route(0, pickup(1), delivery(1)))
	p.Shipments[0].Priority = 2
	greedily(t, "a lesser shipment as well", p, route(0, pickup(0), delivery(0)))
	p.Shipments[1].Priority = 100
	greedily(t, "a greater one", p, route(0, pickup(1), delivery(1)))
}

// TestGreedySkips: a task that doesn't fit is left, and those behind it are still put in.
func TestGreedySkips(t *testing.T) {
	p := village(cars(0, 8), 1, 4, 7, 2)
	p.Jobs[0].Skills, p.Jobs[0].Priority = 1, 9
	greedily(t, "the first is left", p, route(0, job(3), job(1)), route(1, job(2)))
	p.Vehicles[0].Skills = 1
	greedily(t, "none is left", p, route(0, job(3), job(1), job(0)), route(1, job(2)))
	p.Jobs[1].Stop.Windows = spans(0, 39)
	greedily(t, "the second is left", p, route(0, job(3), job(0)), route(1, job(2)))
}

// TestGreedyIsGreedy: what is put in stays, though two others could be had for it.
func TestGreedyIsGreedy(t *testing.T) {
	p := village(cars(0), 1, 2, 8)
	p.Jobs[0].Priority, p.Jobs[1].Priority, p.Jobs[2].Priority = 5, 5, 6
	p.Vehicles[0].Shift.To = 160
	for i := range p.Jobs {
		p.Jobs[i].Stop.Service = 1
	}
	p.Jobs[2].Stop.Service = 0
	greedily(t, "the far one alone", p, route(0, job(2)))
	p.Jobs[2].Priority = 4
	greedily(t, "the near ones", p, route(0, job(1), job(0)))
}

// TestGreedyEach: of drawn problems: each task of Tasks in turn, put in as all options say; and what comes of it is right.
func TestGreedyEach(t *testing.T) {
	r := rand.New(rand.NewSource(153))
	put, left := 0, 0
	for range 6000 {
		p := drawnProblem(r)
		var want api.Solution
		for _, task := range model.Tasks(p) {
			if with, _, there := inserted(p, want, task); there {
				want = with
				put++
			} else {
				left++
			}
		}
		got := Greedy(p)
		if !same(got, want) {
			t.Fatalf("P15.3: %+v:\n%v, want\n%v", p, got, want)
		}
		isRight(t, p, got)
	}
	if put < 10000 || left < 3000 {
		t.Errorf("too few of a kind are drawn: %d put, %d left", put, left)
	}
}

// isRight: do the vehicles rise, has each of them visits for which there is a plan, and has none a task of another one?
func isRight(t *testing.T, p api.Problem, s api.Solution) {
	t.Helper()
	var all []api.Visit
	for i, x := range s.Routes {
		if i > 0 && x.Vehicle <= s.Routes[i-1].Vehicle || len(x.Visits) == 0 {
			t.Errorf("P5: %+v: route %d of %v", p, i, s)
		}
		if _, e := plan.Fit(p, x.Vehicle, x.Visits); e != api.OK {
			t.Errorf("P5: %+v: route %d of %v: %d", p, i, s, e)
		}
		for _, v := range x.Visits {
			if slices.Contains(all, v) {
				t.Errorf("P5: %+v: %v twice in %v", p, v, s)
			}
			all = append(all, v)
		}
	}
}

// great: as much as a problem may have: four vehicles with two breaks, twelve tasks, 32 places.
func great(r *rand.Rand, ships int) api.Problem {
	p := api.Problem{Dims: 3, Time: drawnMatrix(r, 32, false), Dist: drawnMatrix(r, 32, false)}
	for range 4 {
		v := api.Vehicle{Start: r.Intn(32), End: r.Intn(32), Cap: []int{1000, 1000, 1000}, Skills: 7, Shift: api.Window{To: 1000000}, PerTime: 3, PerDist: 2, MaxTasks: 12}
		v.Breaks = []api.Break{{Windows: spans(1, 1, 40, 41), Service: 3}, {Windows: spans(2, 2, 50, 50, 90, 90), Service: 1}}
		p.Vehicles = append(p.Vehicles, v)
	}
	for i := range 12 {
		if i < ships {
			p.Shipments = append(p.Shipments, api.Shipment{Pickup: stop(r.Intn(32)), Delivery: stop(r.Intn(32)), Amount: []int{1, 2, 3}, Priority: r.Intn(101)})
		} else {
			p.Jobs = append(p.Jobs, api.Job{Stop: stop(r.Intn(32)), Drop: []int{1, 2, 3}, Pick: []int{3, 2, 1}, Priority: r.Intn(101)})
		}
	}
	return p
}

// TestGreedyGreat: the greatest problems.
func TestGreedyGreat(t *testing.T) {
	r := rand.New(rand.NewSource(154))
	for _, ships := range []int{0, 4, 12} {
		p := great(r, ships)
		lawful(t, p)
		within(t, "a great problem", func() { isRight(t, p, Greedy(p)) })
		n := 0
		for _, x := range Greedy(p).Routes {
			n += len(x.Visits)
		}
		if n != 12+ships {
			t.Errorf("P15.3: %d visits, want %d", n, 12+ships)
		}
	}
	// Nothing is cheaper than to put all in one vehicle.
	p := village(cars(0, 0, 0, 0))
	for i := range 12 {
		p.Shipments = append(p.Shipments, api.Shipment{Pickup: stop(8), Delivery: stop(0), Priority: i})
	}
	if s := Greedy(p); len(s.Routes) != 1 || len(s.Routes[0].Visits) != 24 {
		t.Errorf("P15.3: %v", s)
	}
}
