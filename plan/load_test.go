package plan

import (
	"math/rand"
	"slices"
	"testing"

	"haulier/api"
)

// loads: does Loads answer this?
func loads(t *testing.T, what string, p api.Problem, visits []api.Visit, want ...[]int) {
	t.Helper()
	if got := Loads(p, visits); !slices.EqualFunc(got, want, slices.Equal[[]int]) {
		t.Errorf("P13.2: %s: Loads(%v): %v, want %v", what, visits, got, want)
	}
}

func TestLoads(t *testing.T) {
	p := town()
	nothing := []int{0, 0}
	loads(t, "no visit", p, nil, nothing)
	loads(t, "a job", p, list(job(0)), []int{1, 2}, []int{3, 5})
	loads(t, "another one", p, list(job(1)), []int{7, 11}, []int{0, 1})
	loads(t, "one without Drop", p, list(job(2)), nothing, []int{13, 17})
	loads(t, "two jobs", p, list(job(0), job(1)), []int{8, 13}, []int{10, 16}, []int{3, 6})
	loads(t, "two jobs", p, list(job(1), job(0)), []int{8, 13}, []int{1, 3}, []int{3, 6})
	loads(t, "a shipment", p, list(pickup(0), delivery(0)), nothing, []int{19, 23}, nothing)
	loads(t, "two shipments", p, list(pickup(0), pickup(1), delivery(0), delivery(1)), nothing, []int{19, 23}, []int{48, 54}, []int{29, 31}, nothing)
	loads(t, "a job and a shipment", p, list(pickup(1), job(0), delivery(1)), []int{1, 2}, []int{30, 33}, []int{32, 36}, []int{3, 5})
	loads(t, "breaks", p, list(pause(0), pause(1)), nothing, nothing, nothing)
	loads(t, "breaks among others", p, list(pause(0), job(1), pause(1)), []int{7, 11}, []int{7, 11}, []int{0, 1}, []int{0, 1})
	loads(t, "the tour", p, tour0(), []int{8, 13}, []int{37, 44}, []int{39, 47}, []int{39, 47}, []int{58, 70}, []int{51, 60}, []int{22, 29}, []int{22, 29}, []int{35, 46}, []int{16, 23})
}

// TestLoadsOfAnyList: lists that no vehicle could drive have loads too.
func TestLoadsOfAnyList(t *testing.T) {
	p := town()
	nothing := []int{0, 0}
	loads(t, "a pickup alone", p, list(pickup(0)), nothing, []int{19, 23})
	loads(t, "a delivery alone", p, list(delivery(0)), nothing, []int{-19, -23})
	loads(t, "the wrong way round", p, list(delivery(1), pickup(1)), nothing, []int{-29, -31}, nothing)
	loads(t, "a job twice", p, list(job(0), job(0)), []int{2, 4}, []int{4, 7}, []int{6, 10})
	loads(t, "a break of no number", p, list(pause(7), pause(-1), job(0)), []int{1, 2}, []int{1, 2}, []int{1, 2}, []int{3, 5})
	for _, k := range kinds() {
		for _, i := range []int{0, 1, 2, -1, 9} {
			loads(t, "a kind that changes nothing", p, list(api.Visit{Kind: k, Item: i}), nothing, nothing)
			loads(t, "a kind that changes nothing", p, list(job(1), api.Visit{Kind: k, Item: i}, pickup(0)), []int{7, 11}, []int{0, 1}, []int{0, 1}, []int{19, 24})
		}
	}
	for _, i := range beyond(3) {
		for _, v := range list(job(i), pickup(i), delivery(i)) {
			loads(t, "a task that isn't there", p, list(v), nothing, nothing)
			loads(t, "a task that isn't there", p, list(job(1), v, pickup(0)), []int{7, 11}, []int{0, 1}, []int{0, 1}, []int{19, 24})
		}
	}
	loads(t, "a shipment that isn't there", p, list(pickup(2), delivery(2)), nothing, nothing, nothing)
}

// TestLoadsOfNoVehicle: a problem without vehicles has loads.
func TestLoadsOfNoVehicle(t *testing.T) {
	p := town()
	p.Vehicles = nil
	loads(t, "no vehicle", p, list(job(0)), []int{1, 2}, []int{3, 5})
}

// TestLoadsDims: each number of dimensions.
func TestLoadsDims(t *testing.T) {
	for dims := range 4 {
		p := town()
		p.Dims = dims
		for i := range p.Jobs {
			p.Jobs[i].Drop, p.Jobs[i].Pick = []int{1, 10, 100}[:dims], []int{2, 20, 200}[:dims]
		}
		for i := range p.Shipments {
			p.Shipments[i].Amount = []int{5, 50, 500}[:dims]
		}
		p.Vehicles[0].Cap = []int{9, 90, 900}[:dims]
		lawful(t, p)
		loads(t, "dims", p, list(job(0), pickup(0), pause(0), delivery(0)), []int{1, 10, 100}[:dims], []int{2, 20, 200}[:dims], []int{7, 70, 700}[:dims], []int{7, 70, 700}[:dims], []int{2, 20, 200}[:dims])
		loads(t, "dims", p, nil, []int{0, 0, 0}[:dims])
	}
}

// TestLoadsDrawn: drawn lists of visits that are there, right or not, held against sums from the beginning.
func TestLoadsDrawn(t *testing.T) {
	r := rand.New(rand.NewSource(14))
	for range 20000 {
		p := drawnProblem(r)
		var l []api.Visit
		for range r.Intn(12) {
			v := api.Visit{Kind: api.VisitKind(1 + r.Intn(6)), Item: r.Intn(5)}
			if v.Kind == api.AtJob && v.Item >= len(p.Jobs) || (v.Kind == api.AtPickup || v.Kind == api.AtDelivery) && v.Item >= len(p.Shipments) {
				continue
			}
			l = append(l, v)
		}
		loads(t, "drawn", p, l, aboard(p, l)...)
	}
}

// TestLoadsLong: as great a sum as a long list makes is told whole.
func TestLoadsLong(t *testing.T) {
	p := town()
	p.Jobs[0].Drop, p.Jobs[0].Pick = []int{1000000, 0}, []int{0, 1000000}
	l := slices.Repeat(list(job(0)), 100000)
	got := Loads(p, l)
	if len(got) != 100001 {
		t.Fatalf("P13.2: %d loads", len(got))
	}
	for i, a := range got {
		if a[0] != (100000-i)*1000000 || a[1] != i*1000000 {
			t.Fatalf("P13.2: behind %d: %v", i, a)
		}
	}
}

// sets: does Set answer this?
func sets(t *testing.T, visits []api.Visit, at []int, want ...api.Visit) {
	t.Helper()
	if got := Set(visits, at); !slices.Equal(got, want) {
		t.Errorf("P13.3: Set(%v, %v): %v, want %v", visits, at, got, want)
	}
}

func TestSet(t *testing.T) {
	a, b, c := job(4), pickup(2), delivery(0)
	sets(t, nil, nil)
	sets(t, list(a), nil, a)
	sets(t, list(a, b, c), nil, a, b, c)
	sets(t, nil, []int{0}, pause(0))
	sets(t, nil, []int{0, 0}, pause(0), pause(1))
	sets(t, list(a), []int{0}, pause(0), a)
	sets(t, list(a), []int{1}, a, pause(0))
	sets(t, list(a, b, c), []int{0}, pause(0), a, b, c)
	sets(t, list(a, b, c), []int{1}, a, pause(0), b, c)
	sets(t, list(a, b, c), []int{2}, a, b, pause(0), c)
	sets(t, list(a, b, c), []int{3}, a, b, c, pause(0))
	sets(t, list(a, b, c), []int{0, 0}, pause(0), pause(1), a, b, c)
	sets(t, list(a, b, c), []int{0, 1}, pause(0), a, pause(1), b, c)
	sets(t, list(a, b, c), []int{0, 3}, pause(0), a, b, c, pause(1))
	sets(t, list(a, b, c), []int{1, 1}, a, pause(0), pause(1), b, c)
	sets(t, list(a, b, c), []int{1, 2}, a, pause(0), b, pause(1), c)
	sets(t, list(a, b, c), []int{2, 3}, a, b, pause(0), c, pause(1))
	sets(t, list(a, b, c), []int{3, 3}, a, b, c, pause(0), pause(1))
	sets(t, list(a, b, c), []int{0, 0, 2, 3, 3}, pause(0), pause(1), a, b, pause(2), c, pause(3), pause(4))
}

// TestSetEach: all places of up to four breaks among up to five visits: behind as many of the visits as was said, all in order.
func TestSetEach(t *testing.T) {
	for n := range 6 {
		var visits []api.Visit
		for i := range n {
			visits = append(visits, job(10+i))
		}
		for breaks := range 5 {
			for _, at := range places(breaks, n) {
				var tasks []api.Visit
				var stand []int
				for _, v := range Set(visits, at) {
					if v.Kind != api.AtBreak {
						tasks = append(tasks, v)
						continue
					}
					if v.Item != len(stand) {
						t.Errorf("P13.3: Set(%v, %v): break %d out of order", visits, at, v.Item)
					}
					stand = append(stand, len(tasks))
				}
				if !slices.Equal(tasks, visits) || !slices.Equal(stand, at) {
					t.Errorf("P13.3: Set(%v, %v): %v", visits, at, Set(visits, at))
				}
			}
		}
	}
}

// TestSetOthers: breaks that stand among the visits count as visits.
func TestSetOthers(t *testing.T) {
	sets(t, list(pause(5), job(0)), []int{1, 2}, pause(5), pause(0), job(0), pause(1))
	sets(t, list(start(), end()), []int{1}, start(), pause(0), end())
	sets(t, list(job(1), job(1)), []int{1}, job(1), pause(0), job(1))
}

// places: all rows of so many places among n visits that don't fall, in the order of their first numbers, then the second, ..
func places(breaks, n int) [][]int {
	if breaks == 0 {
		return [][]int{{}}
	}
	var all [][]int
	for first := range n + 1 {
		for _, rest := range places(breaks-1, n-first) {
			row := []int{first}
			for _, at := range rest {
				row = append(row, first+at)
			}
			all = append(all, row)
		}
	}
	return all
}
