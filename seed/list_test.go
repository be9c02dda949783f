package seed

import (
	"fmt"
	"math"
	"math/rand"
	"slices"
	"testing"

	"haulier/api"
)

func TestVisits(t *testing.T) {
	s := routes(route(2, job(0), job(1)), route(0, pickup(0), delivery(0)), route(2, job(2)), route(3), route(3, job(4)), route(-1, job(5)))
	for vehicle, want := range map[int][]api.Visit{
		0: list(pickup(0), delivery(0)), 1: nil, 2: list(job(0), job(1)), 3: nil, 4: nil, -1: list(job(5)), -2: nil, math.MaxInt: nil, math.MinInt: nil, 1 << 32: nil, 1<<32 + 2: nil,
	} {
		if got := Visits(s, vehicle); !slices.Equal(got, want) {
			t.Errorf("P15.1: Visits(%d): %v, want %v", vehicle, got, want)
		}
	}
	if got := Visits(api.Solution{}, 0); len(got) != 0 {
		t.Errorf("P15.1: Visits of nothing: %v", got)
	}
}

// with: does With answer this?
func with(t *testing.T, s api.Solution, vehicle int, visits []api.Visit, want api.Solution) {
	t.Helper()
	if got := With(s, vehicle, visits); !same(got, want) {
		t.Errorf("P15.1: With(%v, %d, %v): %v, want %v", s, vehicle, visits, got, want)
	}
}

func TestWith(t *testing.T) {
	a, b, c, d := list(job(0)), list(job(1), job(2)), list(pickup(0), delivery(0)), list(job(3))
	none := api.Solution{}
	with(t, none, 1, nil, none)
	with(t, none, 1, []api.Visit{}, none)
	with(t, none, 1, a, routes(route(1, a...)))
	two := routes(route(1, a...), route(3, b...))
	with(t, two, 0, c, routes(route(0, c...), route(1, a...), route(3, b...)))
	with(t, two, 1, c, routes(route(1, c...), route(3, b...)))
	with(t, two, 2, c, routes(route(1, a...), route(2, c...), route(3, b...)))
	with(t, two, 3, c, routes(route(1, a...), route(3, c...)))
	with(t, two, 4, c, routes(route(1, a...), route(3, b...), route(4, c...)))
	with(t, two, 0, nil, two)
	with(t, two, 1, nil, routes(route(3, b...)))
	with(t, two, 2, nil, two)
	with(t, two, 3, nil, routes(route(1, a...)))
	with(t, routes(route(1, a...)), 1, nil, none)
	// Visits that the vehicle has already, and those that another one has.
	with(t, two, 1, a, two)
	with(t, two, 1, b, routes(route(1, b...), route(3, b...)))
	with(t, two, 2, d, routes(route(1, a...), route(2, d...), route(3, b...)))
}

// TestWithWrong: of solutions that aren't right: routes that fall, several of a vehicle, empty ones, numbers of no vehicle.
func TestWithWrong(t *testing.T) {
	a, b, c, d := job(0), job(1), job(2), job(3)
	with(t, routes(route(3, a), route(1, b)), 0, nil, routes(route(1, b), route(3, a)))
	with(t, routes(route(3, a), route(1, b)), 2, list(c), routes(route(1, b), route(2, c), route(3, a)))
	with(t, routes(route(3, a), route(1, b), route(3, c), route(1, d)), 0, nil, routes(route(1, b), route(1, d), route(3, a), route(3, c)))
	with(t, routes(route(3, a), route(1, b), route(3, c), route(1, d)), 1, nil, routes(route(3, a), route(3, c)))
	with(t, routes(route(3, a), route(1, b), route(3, c), route(1, d)), 3, list(a), routes(route(1, b), route(1, d), route(3, a)))
	with(t, routes(route(2), route(1), route(2, a)), 0, nil, routes(route(1), route(2), route(2, a)))
	with(t, routes(route(2), route(1), route(2, a)), 2, nil, routes(route(1)))
	with(t, routes(route(0, a)), -1, list(b), routes(route(-1, b), route(0, a)))
	with(t, routes(route(math.MaxInt, a), route(0, c), route(math.MinInt, b)), 1, list(d), routes(route(math.MinInt, b), route(0, c), route(1, d), route(math.MaxInt, a)))
	with(t, routes(route(0, a)), math.MinInt, list(b), routes(route(math.MinInt, b), route(0, a)))
	with(t, routes(route(0, a)), math.MaxInt, list(b), routes(route(0, a), route(math.MaxInt, b)))
	with(t, routes(route(0, pause(0), delivery(9))), 1, list(pause(7), pause(7)), routes(route(0, pause(0), delivery(9)), route(1, pause(7), pause(7))))
}

// TestWithEach: all solutions of up to four routes of four vehicles.
func TestWithEach(t *testing.T) {
	for n := range 5 {
		for code := range 1 << (2 * n) {
			var s api.Solution
			for i := range n {
				s.Routes = append(s.Routes, route(code>>(2*i)&3, job(i)))
			}
			for vehicle := -1; vehicle <= 4; vehicle++ {
				for _, visits := range [][]api.Visit{nil, list(job(7)), list(pickup(1), job(7), delivery(1))} {
					with(t, s, vehicle, visits, replaced(s, vehicle, visits))
				}
			}
		}
	}
}

// TestWithMany: so many routes that a sort that isn't stable would be seen.
func TestWithMany(t *testing.T) {
	r := rand.New(rand.NewSource(150))
	for range 300 {
		var s api.Solution
		for i := range r.Intn(200) {
			s.Routes = append(s.Routes, route(r.Intn(5), job(i)))
		}
		visits := list(job(999))[:r.Intn(2)]
		vehicle := r.Intn(6)
		with(t, s, vehicle, visits, replaced(s, vehicle, visits))
	}
}

// ways: does Ways answer this?
func ways(t *testing.T, visits []api.Visit, task api.Task, want ...[]api.Visit) {
	t.Helper()
	if got := Ways(visits, task); !sameLists(got, want) {
		t.Errorf("P15.1: Ways(%v, %v):\n%v, want\n%v", visits, task, got, want)
	}
}

func TestWaysOfJob(t *testing.T) {
	a, b, c, x := job(0), job(1), pickup(2), job(2)
	ways(t, nil, jobTask(2), list(x))
	ways(t, list(), jobTask(2), list(x))
	ways(t, list(a), jobTask(2), list(x, a), list(a, x))
	ways(t, list(a, b), jobTask(2), list(x, a, b), list(a, x, b), list(a, b, x))
	ways(t, list(c, b, a), jobTask(2), list(x, c, b, a), list(c, x, b, a), list(c, b, x, a), list(c, b, a, x))
}

func TestWaysOfShipment(t *testing.T) {
	a, b, p, d := job(0), delivery(3), pickup(5), delivery(5)
	ways(t, nil, shipTask(5), list(p, d))
	ways(t, list(a), shipTask(5), list(p, d, a), list(p, a, d), list(a, p, d))
	ways(t, list(a, b), shipTask(5),
		list(p, d, a, b), list(p, a, d, b), list(p, a, b, d),
		list(a, p, d, b), list(a, p, b, d),
		list(a, b, p, d))
}

// TestWaysPlaces: each place counts, though the lists may be the same: of visits that the task has itself, that stand twice, or that are none.
func TestWaysPlaces(t *testing.T) {
	a, p, d := job(0), pickup(0), delivery(0)
	ways(t, list(a, a), jobTask(0), list(a, a, a), list(a, a, a), list(a, a, a))
	ways(t, list(p, d), shipTask(0),
		list(p, d, p, d), list(p, p, d, d), list(p, p, d, d),
		list(p, p, d, d), list(p, p, d, d),
		list(p, d, p, d))
	ways(t, list(d), shipTask(0), list(p, d, d), list(p, d, d), list(d, p, d))
	ways(t, list(pause(1)), jobTask(0), list(a, pause(1)), list(pause(1), a))
	ways(t, list(api.Visit{}), jobTask(-5), list(job(-5), api.Visit{}), list(api.Visit{}, job(-5)))
	for _, i := range beyond(3) {
		ways(t, list(a), jobTask(i), list(job(i), a), list(a, job(i)))
		ways(t, nil, shipTask(i), list(pickup(i), delivery(i)))
	}
}

// TestWaysEach: of lists of each length, up to that of the longest route: how many ways there are, and each of them.
func TestWaysEach(t *testing.T) {
	var visits []api.Visit
	for n := range 25 {
		what := fmt.Sprint("P15.1: ", n, " visits")
		one, two := Ways(visits, jobTask(77)), Ways(visits, shipTask(77))
		if len(one) != n+1 || len(two) != (n+1)*(n+2)/2 {
			t.Errorf("%s: %d and %d ways", what, len(one), len(two))
		}
		if !sameLists(one, waysOf(visits, jobTask(77))) || !sameLists(two, waysOf(visits, shipTask(77))) {
			t.Errorf("%s: %v, %v", what, one, two)
		}
		visits = append(visits, job(n))
	}
}
