package drive_test

import (
	"cmp"
	"math"
	"math/rand"
	"slices"
	"testing"

	"haulier/api"
	"haulier/drive"
)

// scores: does Score answer this?
func scores(t *testing.T, what string, p api.Problem, s api.Solution, want api.Score, e api.Errno) {
	t.Helper()
	lawful(t, p)
	if got, is := drive.Score(p, s); got != want || is != e {
		t.Errorf("P18.1: %s: Score(%v): %v, %d, want %v, %d", what, s, got, is, want, e)
	}
}

// TestScore: figures by hand.
func TestScore(t *testing.T) {
	p := town()
	scores(t, "nothing", p, api.Solution{}, api.Score{}, api.OK)
	scores(t, "nothing", p, routes(), api.Score{}, api.OK)
	scores(t, "a job", p, routes(route(0, job(0))), api.Score{Value: 1, Cost: 1000 + 3*16 + 2*163}, api.OK)
	scores(t, "the other vehicle", p, routes(route(1, job(0))), api.Score{Value: 1, Cost: 10}, api.OK)
	scores(t, "a shipment, once", p, routes(route(1, pickup(0), delivery(0))), api.Score{Value: 4, Cost: 10 + 30*10 + 4*96}, api.OK)
	scores(t, "both", p, routes(route(0, pickup(0), job(0), delivery(0))), api.Score{Value: 5, Cost: 1000 + 3*25 + 2*247}, api.OK)
	scores(t, "two routes", p, routes(route(0, job(0)), route(1, pickup(0), delivery(0))), api.Score{Value: 5, Cost: 1374 + 694}, api.OK)
	p.Jobs[0].Priority, p.Shipments[0].Priority = 0, 100
	scores(t, "without value", p, routes(route(1, job(0))), api.Score{Cost: 10}, api.OK)
	scores(t, "of much value", p, routes(route(1, pickup(0), delivery(0)), route(0, job(0))), api.Score{Value: 100, Cost: 1374 + 694}, api.OK)
}

// TestScoreOfWrong: what is no error of Fit is none of Score: what stands twice counts twice, and a route without visits drives.
func TestScoreOfWrong(t *testing.T) {
	p := town()
	scores(t, "an empty route", p, routes(route(0)), api.Score{Cost: 1000 + 3*5 + 2*60}, api.OK)
	scores(t, "empty routes", p, routes(route(1), route(1, list()...), route(1)), api.Score{Cost: 30}, api.OK)
	scores(t, "a vehicle twice", p, routes(route(1, job(0)), route(1, pickup(0), delivery(0))), api.Score{Value: 5, Cost: 10 + 694}, api.OK)
	scores(t, "a job twice", p, routes(route(0, job(0)), route(1, job(0))), api.Score{Value: 2, Cost: 1374 + 10}, api.OK)
	scores(t, "a shipment twice", p, routes(route(1, pickup(0), delivery(0)), route(1, pickup(0), delivery(0))), api.Score{Value: 8, Cost: 2 * 694}, api.OK)
	scores(t, "falling vehicles", p, routes(route(1, job(0)), route(0, pickup(0), job(0), delivery(0))), api.Score{Value: 6, Cost: 10 + 1569}, api.OK)
	p.Time.Cells[3] = -1
	scores(t, "an empty route that can't be driven", p, routes(route(1), route(0)), api.Score{}, api.ErrTravel)
	scores(t, "visits in between", p, routes(route(0, job(0))), api.Score{Value: 1, Cost: 1374}, api.OK)
}

// TestScoreErrors: each error of Fit, nothing beside it, and of several the one of the route that stands first.
func TestScoreErrors(t *testing.T) {
	p := town()
	p.Vehicles[0].Cap = []int{100, 22}
	p.Dist.Cells[13] = -1
	p.Jobs[2].Skills = 5
	wrong := []struct {
		r api.Route
		e api.Errno
	}{
		{route(2, job(0)), api.ErrVehicle},
		{route(-1, job(0)), api.ErrVehicle},
		{route(2), api.ErrVehicle},
		{route(0, job(3)), api.ErrVisit},
		{route(0, pickup(0)), api.ErrVisit},
		{route(0, delivery(0), pickup(0)), api.ErrVisit},
		{route(0, job(0), job(0)), api.ErrVisit},
		{route(0, api.Visit{}), api.ErrVisit},
		{route(0, job(0), pause(0), pause(1)), api.ErrBreak},
		{route(1, job(1)), api.ErrSkill},
		{route(0, pickup(0), delivery(0)), api.ErrLoad},
		{route(1, job(2)), api.ErrTravel},
	}
	right := []api.Route{route(0, job(0)), route(1, job(0)), route(1)}
	for _, a := range wrong {
		scores(t, "one route", p, routes(a.r), api.Score{}, a.e)
		for _, b := range right {
			scores(t, "ahead of a right one", p, routes(a.r, b), api.Score{}, a.e)
			scores(t, "behind a right one", p, routes(b, a.r), api.Score{}, a.e)
			scores(t, "between right ones", p, routes(b, a.r, b), api.Score{}, a.e)
		}
		for _, b := range wrong {
			scores(t, "the first of two", p, routes(a.r, b.r), api.Score{}, a.e)
			scores(t, "the first of two", p, routes(right[1], a.r, right[0], b.r), api.Score{}, a.e)
		}
	}
	p = town()
	p.Vehicles[0].MaxTasks = 1
	scores(t, "tasks", p, routes(route(1, job(0)), route(0, job(0), job(1))), api.Score{}, api.ErrTasks)
	p.Vehicles[1].Shift.To = 59
	scores(t, "time, for its break", p, routes(route(1, job(0)), route(0, job(0), job(1))), api.Score{}, api.ErrTime)
	scores(t, "time, for its break", p, routes(route(0, job(0)), route(1, job(0))), api.Score{}, api.ErrTime)
}

// TestScoreGreat: the greatest figures that may be.
func TestScoreGreat(t *testing.T) {
	p := api.Problem{Time: square(2, 0, 0, 0, 0), Dist: square(2, 0, 32000000, 32000000, 0)}
	var s api.Solution
	for i := range 12 {
		p.Shipments = append(p.Shipments, api.Shipment{Pickup: stop(1), Delivery: stop(0), Priority: 100})
		if i%3 == 0 {
			p.Vehicles = append(p.Vehicles, api.Vehicle{Shift: api.Window{To: 1000000}, Fixed: 1000000, PerTime: 1000000, PerDist: 1000000, MaxTasks: 12})
			s.Routes = append(s.Routes, route(i/3))
		}
		s.Routes[i/3].Visits = append(s.Routes[i/3].Visits, pickup(i), delivery(i))
	}
	scores(t, "great", p, s, api.Score{Value: 1200, Cost: 4*1000000 + 24*32000000*1000000}, api.OK)
}

// TestScoreDrawn: of drawn solutions, right ones and wrong ones.
func TestScoreDrawn(t *testing.T) {
	r := rand.New(rand.NewSource(181))
	right := 0
	for range 20000 {
		p := drawnProblem(r)
		for _, s := range []api.Solution{drawnRoutes(r, p), drawnRight(r, p)} {
			want, e := scoreOf(p, s)
			scores(t, "drawn", p, s, want, e)
			if e == api.OK && len(s.Routes) > 1 {
				right++
			}
		}
	}
	if right < 3000 {
		t.Errorf("only %d of the drawn solutions have a score", right)
	}
}

func TestBetter(t *testing.T) {
	for _, c := range []struct {
		a, b api.Score
		want bool
	}{
		{api.Score{Value: 5, Cost: 9}, api.Score{Value: 5, Cost: 8}, false},
		{api.Score{Value: 6, Cost: 99}, api.Score{Value: 5, Cost: 0}, true},
		{api.Score{Value: 5, Cost: 8}, api.Score{Value: 5, Cost: 9}, true},
		{api.Score{Value: 5, Cost: 8}, api.Score{Value: 5, Cost: 8}, false},
		{api.Score{Value: 5, Cost: 0}, api.Score{Value: 6, Cost: 99}, false},
		{api.Score{}, api.Score{}, false},
		{api.Score{}, api.Score{Cost: 1}, true},
		{api.Score{Value: 1, Cost: api.MaxBig}, api.Score{}, true},
	} {
		if got := drive.Better(c.a, c.b); got != c.want {
			t.Errorf("P18.1: Better(%v, %v): %v", c.a, c.b, got)
		}
	}
}

// TestBetterEach: each two of many scores, the ends of int among them.
func TestBetterEach(t *testing.T) {
	numbers := []int{math.MinInt, math.MinInt + 1, -1 << 62, -1 << 32, -2, -1, 0, 1, 2, 3, 1 << 31, 1 << 32, 1 << 62, math.MaxInt - 1, math.MaxInt}
	var all []api.Score
	for _, value := range numbers {
		for _, cost := range numbers {
			all = append(all, api.Score{Value: value, Cost: cost})
		}
	}
	for _, a := range all {
		for _, b := range all {
			want := cmp.Or(cmp.Compare(b.Value, a.Value), cmp.Compare(a.Cost, b.Cost)) < 0
			if got := drive.Better(a, b); got != want {
				t.Errorf("P18.1: Better(%v, %v): %v", a, b, got)
			}
		}
	}
}

// leaves: does Left answer these tasks?
func leaves(t *testing.T, what string, p api.Problem, s api.Solution, want ...api.Task) {
	t.Helper()
	lawful(t, p)
	if got := drive.Left(p, s); !slices.Equal(got, want) {
		t.Errorf("P18.1: %s: Left(%v): %v, want %v", what, s, got, want)
	}
}

func TestLeft(t *testing.T) {
	p := town()
	j0, j1, j2, s0, s1 := jobTask(0), jobTask(1), jobTask(2), shipTask(0), shipTask(1)
	leaves(t, "all", p, api.Solution{}, j0, j1, j2, s0, s1)
	leaves(t, "all", p, routes(route(0), route(1)), j0, j1, j2, s0, s1)
	leaves(t, "a job", p, routes(route(1, job(1))), j0, j2, s0, s1)
	leaves(t, "a shipment", p, routes(route(1, pickup(0), delivery(0))), j0, j1, j2, s1)
	leaves(t, "two routes", p, routes(route(0, job(2), pickup(1), delivery(1)), route(1, job(0))), j1, s0)
	leaves(t, "none", p, routes(route(0, pickup(0), job(2), delivery(0), job(0)), route(1, pickup(1), job(1), delivery(1))))
	leaves(t, "no task", village([]api.Vehicle{car(0)}), api.Solution{})
	leaves(t, "no vehicle", village(nil, 1, 2), api.Solution{}, j0, j1)
	p.Shipments[1].Priority, p.Jobs[2].Priority = 100, 99
	leaves(t, "whatever the priorities", p, api.Solution{}, j0, j1, j2, s0, s1)
}

// TestLeftOfWrong: the first visit counts, in whatever route it stands, and nothing else.
func TestLeftOfWrong(t *testing.T) {
	p := town()
	j0, j1, j2, s0, s1 := jobTask(0), jobTask(1), jobTask(2), shipTask(0), shipTask(1)
	leaves(t, "a pickup alone", p, routes(route(0, pickup(1))), j0, j1, j2, s0)
	leaves(t, "a delivery alone", p, routes(route(0, delivery(1))), j0, j1, j2, s0, s1)
	leaves(t, "the wrong way round", p, routes(route(0, delivery(1), pickup(1))), j0, j1, j2, s0)
	leaves(t, "in two routes", p, routes(route(0, delivery(0)), route(1, pickup(0))), j0, j1, j2, s1)
	leaves(t, "twice", p, routes(route(0, job(0), job(0)), route(1, job(0))), j1, j2, s0, s1)
	leaves(t, "a vehicle twice", p, routes(route(1, job(0)), route(0), route(1, job(2))), j1, s0, s1)
	leaves(t, "vehicles that aren't there", p, routes(route(-1, job(0)), route(7, pickup(1)), route(math.MaxInt, job(1))), j2, s0)
	leaves(t, "tasks that aren't there", p, routes(route(0, job(3), job(-1), pickup(2), job(1<<32), pickup(-1<<32), job(math.MinInt))), j0, j1, j2, s0, s1)
	leaves(t, "a break", p, routes(route(0, pause(0), pause(1))), j0, j1, j2, s0, s1)
	for _, k := range []api.VisitKind{math.MinInt, -1, 0, api.AtDelivery, api.AtBreak, api.AtStart, api.AtEnd, 7, 257, 1<<32 + 1, 1<<32 + 2} {
		leaves(t, "other kinds", p, routes(route(0, api.Visit{Kind: k}, api.Visit{Kind: k, Item: 1})), j0, j1, j2, s0, s1)
	}
}

// TestLeftDrawn: of drawn solutions, right ones and wrong ones.
func TestLeftDrawn(t *testing.T) {
	r := rand.New(rand.NewSource(182))
	for range 5000 {
		p := drawnProblem(r)
		for _, s := range []api.Solution{drawnRoutes(r, p), drawnRight(r, p)} {
			has := func(v api.Visit) bool {
				return slices.ContainsFunc(s.Routes, func(x api.Route) bool { return slices.Contains(x.Visits, v) })
			}
			var want []api.Task
			for i := range p.Jobs {
				if !has(job(i)) {
					want = append(want, jobTask(i))
				}
			}
			for i := range p.Shipments {
				if !has(pickup(i)) {
					want = append(want, shipTask(i))
				}
			}
			leaves(t, "drawn", p, s, want...)
		}
	}
}
