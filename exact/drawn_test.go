package exact_test

import (
	"math/rand"
	"testing"

	"haulier/api"
	"haulier/exact"
	"haulier/model"
)

// tally counts what drawn problems were like.
type tally struct {
	empty, whole, part, only, many int
}

// asGood: is the best of a drawn problem as good as the best of all that there is?
func (c *tally) asGood(t *testing.T, p api.Problem) {
	t.Helper()
	lawful(t, p)
	want, n := most(p)
	s, ok := exact.Best(p)
	if got := scored(t, p, s); !ok || got != want {
		t.Fatalf("P19.2: %+v:\n%v, %v of score %v, want %v", p, s, ok, got, want)
	}
	if brings := bringing(p); !brings && len(s.Routes) > 0 {
		t.Fatalf("P19.2: %+v: no task brings Value, but %v", p, s)
	}
	switch driven := visited(s); {
	case driven == 0:
		c.empty++
	case driven == len(p.Jobs)+2*len(p.Shipments):
		c.whole++
	default:
		c.part++
	}
	if n == 1 {
		c.only++
	} else {
		c.many++
	}
}

// bringing: does a task bring Value?
func bringing(p api.Problem) bool {
	for _, t := range model.Tasks(p) {
		if model.Priority(p, t) > 0 {
			return true
		}
	}
	return false
}

// visited: how many visits a solution has.
func visited(s api.Solution) int {
	n := 0
	for _, x := range s.Routes {
		n += len(x.Visits)
	}
	return n
}

// enough: were there so many of each kind at least?
func (c *tally) enough(t *testing.T, n int) {
	t.Helper()
	if min(c.empty, c.whole, c.part, c.only, c.many) < n {
		t.Errorf("too few of a kind are drawn: %+v", *c)
	}
}

// TestBestDrawn: of drawn problems: no list of visits is better.
func TestBestDrawn(t *testing.T) {
	r := rand.New(rand.NewSource(191))
	var c tally
	for range 8000 {
		c.asGood(t, drawnProblem(r, r.Intn(5)))
	}
	for range 3000 {
		c.asGood(t, drawnProblem(r, 5))
	}
	for range 600 {
		c.asGood(t, drawnProblem(r, 6))
	}
	c.enough(t, 500)
}

// TestBestDrawnGreat: of some that are as great as they may be.
func TestBestDrawnGreat(t *testing.T) {
	r := rand.New(rand.NewSource(192))
	var c tally
	for range 60 {
		c.asGood(t, drawnProblem(r, 7))
	}
	for range 12 {
		c.asGood(t, drawnProblem(r, 8))
	}
	for range 40 {
		p := drawnProblem(r, 0)
		n := p.Time.N
		for range 4 {
			p.Shipments = append(p.Shipments, api.Shipment{Pickup: drawnStop(r, n), Delivery: drawnStop(r, n), Amount: drawnAmounts(r, p.Dims, 7), Skills: 1 << r.Intn(3), Priority: drawnPriority(r)})
		}
		c.asGood(t, p)
	}
}

// roomyProblem: one of which only some things are short: a vehicle that can drive all tasks, but not in each order.
func roomyProblem(r *rand.Rand, visits int) api.Problem {
	p := drawnProblem(r, visits)
	car := &p.Vehicles[0]
	car.Skills, car.MaxTasks, car.Shift = 7, 12, api.Window{To: 400}
	for i := range p.Jobs {
		p.Jobs[i].Priority = 1
		p.Jobs[i].Stop.Windows = spans(0, 30+r.Intn(150))
	}
	for i := range p.Shipments {
		p.Shipments[i].Priority = 1
		p.Shipments[i].Pickup.Windows, p.Shipments[i].Delivery.Windows = spans(0, 30+r.Intn(100)), spans(r.Intn(50), 50+r.Intn(150))
	}
	for d := range car.Cap {
		sum := 0
		for _, j := range p.Jobs {
			sum += j.Drop[d]
		}
		car.Cap[d] = sum + r.Intn(6)
	}
	return p
}

// TestBestDrawnTight: of problems where all could be driven, but not in each order, and quick and cheap ways differ.
func TestBestDrawnTight(t *testing.T) {
	r := rand.New(rand.NewSource(193))
	var c tally
	for range 2500 {
		p := roomyProblem(r, 3+r.Intn(3))
		p.Vehicles[0].PerTime, p.Vehicles[0].PerDist = r.Intn(2), 1+r.Intn(3)
		c.asGood(t, p)
	}
	if c.whole < 1000 || c.part < 500 || c.only < 500 {
		t.Errorf("too few of a kind are drawn: %+v", c)
	}
}

// TestBestDrawnRested: of problems with one break or two in short windows.
func TestBestDrawnRested(t *testing.T) {
	r := rand.New(rand.NewSource(194))
	var c tally
	for range 3000 {
		p := roomyProblem(r, 1+r.Intn(4))
		p.Vehicles[0].Breaks = nil
		for range 1 + r.Intn(2) {
			from := r.Intn(60)
			p.Vehicles[0].Breaks = append(p.Vehicles[0].Breaks, api.Break{Windows: spans(from, from+r.Intn(40)), Service: r.Intn(30)})
		}
		c.asGood(t, p)
	}
	c.enough(t, 200)
}

// TestBestWithoutVehicle: of drawn problems without a vehicle the best is the empty solution.
func TestBestWithoutVehicle(t *testing.T) {
	r := rand.New(rand.NewSource(195))
	for range 500 {
		p := drawnProblem(r, r.Intn(9))
		p.Vehicles = nil
		bests(t, "without a vehicle", p, nil)
	}
}

// TestBestTwins: many tasks alike: whichever of them are driven.
func TestBestTwins(t *testing.T) {
	p := village(3, 3, 3, 3, 3, 3, 3, 3)
	scores(t, "eight jobs alike", p, 8, 60)
	p.Vehicles[0].MaxTasks = 5
	scores(t, "five of eight", p, 5, 60)
	p = village()
	for range 4 {
		p.Shipments = append(p.Shipments, api.Shipment{Pickup: stop(2), Delivery: stop(1), Amount: []int{1}, Priority: 1})
	}
	p.Dims, p.Vehicles[0].Cap = 1, []int{4}
	scores(t, "four shipments alike", p, 4, 40)
	p.Vehicles[0].Cap = []int{3}
	scores(t, "three at a time", p, 4, 60)
	p.Vehicles[0].Cap = []int{1}
	scores(t, "one at a time", p, 4, 100)
	p.Vehicles[0].Cap = []int{0}
	bests(t, "none at a time", p, nil)
}

// TestBestGreatFigures: the greatest figures that may be.
func TestBestGreatFigures(t *testing.T) {
	p := api.Problem{Dims: 3, Time: square(2, 0, 0, 0, 0), Dist: square(2, 0, 32000000, 32000000, 0)}
	p.Vehicles = []api.Vehicle{{Shift: api.Window{To: 1000000}, Fixed: 1000000, PerTime: 1000000, PerDist: 1000000, MaxTasks: 12, Cap: []int{1000000, 1000000, 1000000}}}
	for range 4 {
		p.Shipments = append(p.Shipments, api.Shipment{Pickup: stop(1), Delivery: stop(0), Amount: []int{1000000, 1000000, 1000000}, Priority: 100})
	}
	scores(t, "four there and back", p, 400, 1000000+8*32000000*1000000)
	p.Shipments[3].Delivery.Service = 1000000
	scores(t, "the last one takes all the time", p, 400, 1000000+8*32000000*1000000)
	p.Shipments[3].Delivery.Service, p.Vehicles[0].Shift.From = 0, 1000000
	scores(t, "at the last moment", p, 400, 1000000+8*32000000*1000000)
}
