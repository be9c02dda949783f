package plan

import (
	"fmt"
	"math/rand"
	"slices"
	"testing"

	"haulier/api"
)

// line: the chapter's example: two places 10 apart, a vehicle there and back, a job at the second one.
func line(breaks ...api.Break) api.Problem {
	m := square(2, 0, 10, 10, 0)
	return api.Problem{
		Time: m, Dist: m,
		Vehicles: []api.Vehicle{{Shift: api.Window{From: 0, To: 100}, PerTime: 1, MaxTasks: 1, Breaks: breaks}},
		Jobs:     []api.Job{{Stop: api.Stop{Place: 1, Service: 5, Windows: spans(30, 40)}}},
	}
}

func TestOfExample(t *testing.T) {
	want := api.Plan{
		Steps: []api.Step{
			{Visit: start()},
			{Visit: job(0), Place: 1, Arrival: 10, Wait: 20, Service: 5, Time: 10, Dist: 10},
			{Visit: end(), Arrival: 45, Time: 20, Dist: 20},
		},
		Time: 20, Dist: 20, Wait: 20, Service: 5, Cost: 20,
	}
	answers(t, "the example", line(), 0, list(job(0)), want, api.OK)
}

// TestOfRight: each figure of each step, and each sum, reckoned by hand.
func TestOfRight(t *testing.T) {
	p := town()
	p.Jobs[0].Stop.Windows = spans(0, 20, 40, 50)
	p.Vehicles[0].Breaks[1].Windows = spans(100, 100)
	want := api.Plan{
		Steps: []api.Step{
			{Visit: start(), Place: 0, Arrival: 20, Load: []int{8, 13}},
			{Visit: pickup(1), Place: 0, Arrival: 20, Service: 1, Load: []int{37, 44}},
			{Visit: job(0), Place: 1, Arrival: 28, Wait: 12, Service: 4, Load: []int{39, 47}, Time: 7, Dist: 70},
			{Visit: pause(0), Place: 1, Arrival: 44, Service: 15, Load: []int{39, 47}, Time: 7, Dist: 70},
			{Visit: pickup(0), Place: 2, Arrival: 65, Service: 3, Load: []int{58, 70}, Time: 13, Dist: 122},
			{Visit: job(1), Place: 2, Arrival: 68, Service: 6, Load: []int{51, 60}, Time: 13, Dist: 122},
			{Visit: delivery(1), Place: 2, Arrival: 74, Service: 5, Load: []int{22, 29}, Time: 13, Dist: 122},
			{Visit: pause(1), Place: 2, Arrival: 79, Wait: 21, Service: 25, Load: []int{22, 29}, Time: 13, Dist: 122},
			{Visit: job(2), Place: 3, Arrival: 128, Service: 0, Load: []int{35, 46}, Time: 16, Dist: 157},
			{Visit: delivery(0), Place: 1, Arrival: 138, Service: 2, Load: []int{16, 23}, Time: 26, Dist: 259},
			{Visit: end(), Place: 3, Arrival: 149, Load: []int{16, 23}, Time: 35, Dist: 352},
		},
		Time: 35, Dist: 352, Wait: 33, Service: 61, Cost: 1000 + 35*3 + 352*2,
	}
	answers(t, "the town", p, 0, tour0(), want, api.OK)
}

// TestOfVehicle: another one than the first, from elsewhere to elsewhere, at another time, without breaks.
func TestOfVehicle(t *testing.T) {
	p := town()
	p.Vehicles = append(p.Vehicles, api.Vehicle{Start: 2, End: 1, Cap: []int{7, 11}, Skills: 2, Shift: api.Window{From: 500, To: 515}, Fixed: 9, PerTime: 100, PerDist: 1, MaxTasks: 1})
	want := api.Plan{
		Vehicle: 1,
		Steps: []api.Step{
			{Visit: start(), Place: 2, Arrival: 500, Load: []int{7, 11}},
			{Visit: job(1), Place: 2, Arrival: 500, Service: 6, Load: []int{0, 1}},
			{Visit: end(), Place: 1, Arrival: 510, Load: []int{0, 1}, Time: 4, Dist: 44},
		},
		Time: 4, Dist: 44, Service: 6, Cost: 453,
	}
	answers(t, "the second vehicle", p, 1, list(job(1)), want, api.OK)
	want = api.Plan{
		Vehicle: 1,
		Steps: []api.Step{
			{Visit: start(), Place: 2, Arrival: 500, Load: []int{0, 0}},
			{Visit: end(), Place: 1, Arrival: 504, Load: []int{0, 0}, Time: 4, Dist: 44},
		},
		Time: 4, Dist: 44, Cost: 453,
	}
	answers(t, "no visit", p, 1, nil, want, api.OK)
}

// TestOfBreaksAlone: a vehicle that takes its breaks at the start, and drives to its end.
func TestOfBreaksAlone(t *testing.T) {
	p := town()
	p.Vehicles[0].Breaks[0].Windows = spans(22, 22)
	want := api.Plan{
		Steps: []api.Step{
			{Visit: start(), Place: 0, Arrival: 20, Load: []int{0, 0}},
			{Visit: pause(0), Place: 0, Arrival: 20, Wait: 2, Service: 15, Load: []int{0, 0}},
			{Visit: pause(1), Place: 0, Arrival: 37, Service: 25, Load: []int{0, 0}},
			{Visit: end(), Place: 3, Arrival: 67, Load: []int{0, 0}, Time: 5, Dist: 60},
		},
		Time: 5, Dist: 60, Wait: 2, Service: 40, Cost: 1135,
	}
	answers(t, "breaks alone", p, 0, list(pause(0), pause(1)), want, api.OK)
}

func TestErrVehicle(t *testing.T) {
	p := town()
	p.Vehicles[0].Breaks = nil
	for n := range 5 {
		q := p
		q.Vehicles = nil
		for range n {
			q.Vehicles = append(q.Vehicles, p.Vehicles[0])
		}
		for vehicle := range n {
			tells(t, "a vehicle", q, vehicle, list(job(0)), api.OK)
		}
		for _, vehicle := range beyond(n) {
			tells(t, "no vehicle", q, vehicle, list(job(0)), api.ErrVehicle)
			tells(t, "no vehicle", q, vehicle, nil, api.ErrVehicle)
			tells(t, "no vehicle", q, vehicle, list(job(9)), api.ErrVehicle)
		}
	}
}

// bare: the town with a vehicle without breaks.
func bare() api.Problem {
	p := town()
	p.Vehicles[0].Breaks = nil
	return p
}

// TestErrVisitNone: visits of tasks that aren't there, and kinds that are none, at each place of a list.
func TestErrVisitNone(t *testing.T) {
	p := bare()
	base := list(pickup(0), job(1), delivery(0))
	tells(t, "all there", p, 0, base, api.OK)
	var wrong []api.Visit
	for _, k := range kinds() {
		for _, i := range append(beyond(2), 0, 1) {
			wrong = append(wrong, api.Visit{Kind: k, Item: i})
		}
	}
	for _, i := range beyond(3) {
		wrong = append(wrong, job(i))
	}
	for _, i := range beyond(2) {
		wrong = append(wrong, pickup(i), delivery(i))
	}
	for _, v := range wrong {
		for at := range len(base) + 1 {
			tells(t, "no visit", p, 0, slices.Insert(slices.Clone(base), at, v), api.ErrVisit)
		}
		tells(t, "no visit", p, 0, list(v), api.ErrVisit)
	}
	for _, i := range beyond(2) {
		tells(t, "no shipment", p, 0, list(pickup(i), delivery(i)), api.ErrVisit)
	}
}

// TestErrVisitOfOthers: job 2 is there, shipment 2 isn't; with more shipments than jobs it is the other way round.
func TestErrVisitOfOthers(t *testing.T) {
	p := bare()
	tells(t, "job 2", p, 0, list(job(2)), api.OK)
	tells(t, "shipment 2", p, 0, list(pickup(2), delivery(2)), api.ErrVisit)
	p.Jobs = p.Jobs[:1]
	tells(t, "job 1", p, 0, list(job(1)), api.ErrVisit)
	tells(t, "shipment 1", p, 0, list(pickup(1), delivery(1)), api.OK)
	p.Jobs = nil
	tells(t, "no job", p, 0, list(job(0)), api.ErrVisit)
	p.Shipments = nil
	tells(t, "no shipment", p, 0, list(pickup(0), delivery(0)), api.ErrVisit)
	tells(t, "nothing", p, 0, nil, api.OK)
}

// TestErrVisitTwice: each visit of a list once more, at each place.
func TestErrVisitTwice(t *testing.T) {
	p := bare()
	base := list(pickup(0), job(1), delivery(0), job(0), pickup(1), delivery(1))
	tells(t, "once", p, 0, base, api.OK)
	for _, v := range base {
		for at := range len(base) + 1 {
			tells(t, "twice", p, 0, slices.Insert(slices.Clone(base), at, v), api.ErrVisit)
		}
	}
	tells(t, "a shipment twice", p, 0, list(pickup(0), delivery(0), pickup(0), delivery(0)), api.ErrVisit)
	tells(t, "a shipment twice", p, 0, list(pickup(0), pickup(0), delivery(0), delivery(0)), api.ErrVisit)
	tells(t, "a job twice", p, 0, list(job(2), job(2)), api.ErrVisit)
	tells(t, "the same number", p, 0, list(job(0), pickup(0), delivery(0), job(1), pickup(1), delivery(1)), api.OK)
}

// TestErrVisitPairs: pickups and deliveries that lack each other, or stand the wrong way round.
func TestErrVisitPairs(t *testing.T) {
	p := bare()
	for _, c := range []struct {
		l []api.Visit
		e api.Errno
	}{
		{list(pickup(0), delivery(0)), api.OK},
		{list(pickup(0)), api.ErrVisit},
		{list(delivery(0)), api.ErrVisit},
		{list(delivery(0), pickup(0)), api.ErrVisit},
		{list(pickup(0), delivery(1)), api.ErrVisit},
		{list(pickup(0), pickup(1)), api.ErrVisit},
		{list(delivery(0), delivery(1)), api.ErrVisit},
		{list(job(0), pickup(0), job(1)), api.ErrVisit},
		{list(job(0), delivery(0), job(1)), api.ErrVisit},
		{list(pickup(0), job(0), delivery(0)), api.OK},
		{list(delivery(0), job(0), pickup(0)), api.ErrVisit},
		{list(pickup(0), pickup(1), delivery(0), delivery(1)), api.OK},
		{list(pickup(0), pickup(1), delivery(1), delivery(0)), api.OK},
		{list(pickup(1), delivery(0), pickup(0), delivery(1)), api.ErrVisit},
		{list(pickup(1), delivery(1), delivery(0), pickup(0)), api.ErrVisit},
		{list(pickup(0), delivery(0), delivery(1)), api.ErrVisit},
		{list(pickup(0), delivery(0), pickup(1)), api.ErrVisit},
		{list(pickup(1), pickup(0), delivery(0)), api.ErrVisit},
		{list(delivery(1), pickup(0), delivery(0)), api.ErrVisit},
		{list(pickup(0), delivery(0), pickup(0)), api.ErrVisit},
		{list(delivery(0), pickup(0), delivery(0)), api.ErrVisit},
	} {
		tells(t, "pairs", p, 0, c.l, c.e)
	}
}

// TestErrBreak: every row of up to four breaks, of vehicles with none, one and two, ahead of a job, behind it, and around it.
func TestErrBreak(t *testing.T) {
	items := []int{-1, 0, 1, 2, 1 << 32}
	for breaks := range 3 {
		p := town()
		p.Vehicles[0].Breaks = p.Vehicles[0].Breaks[:breaks]
		for n := range 5 {
			row := make([]int, n)
			for {
				want := api.OK
				if !slices.Equal(row, []int{0, 1, 2, 3, 4}[:breaks]) {
					want = api.ErrBreak
				}
				var l []api.Visit
				for _, i := range row {
					l = append(l, pause(i))
				}
				for at := range n + 1 {
					tells(t, fmt.Sprint(breaks, " breaks"), p, 0, slices.Insert(slices.Clone(l), at, job(0)), want)
				}
				tells(t, fmt.Sprint(breaks, " breaks"), p, 0, l, want)
				if !next(row, items) {
					break
				}
			}
		}
	}
}

// next: the row that comes behind this one, its numbers being drawn from some; false: it was the last one. The first one is all 0s.
func next(row, items []int) bool {
	for i := range row {
		at := (slices.Index(items, row[i]) + 1) % len(items)
		row[i] = items[at]
		if row[i] != 0 {
			return true
		}
	}
	return false
}

// TestErrBreakOfTheVehicle: each vehicle has breaks of its own.
func TestErrBreakOfTheVehicle(t *testing.T) {
	p := town()
	one, none := p.Vehicles[0], p.Vehicles[0]
	one.Breaks, none.Breaks = one.Breaks[:1], nil
	p.Vehicles = append(p.Vehicles, one, none)
	rows := [][]api.Visit{list(pause(0), pause(1)), list(pause(0)), nil}
	for vehicle := range 3 {
		for i, row := range rows {
			want := api.ErrBreak
			if i == vehicle {
				want = api.OK
			}
			tells(t, "a vehicle's breaks", p, vehicle, row, want)
		}
	}
}

// TestErrSkill: each of the skills, of jobs and of shipments.
func TestErrSkill(t *testing.T) {
	p := bare()
	for bit := range 62 {
		set := uint64(1) << bit
		for _, have := range []uint64{0, set, set | 1, set - 1, 1<<62 - 1, (1<<62 - 1) &^ set} {
			p.Vehicles[0].Skills = have
			want := api.ErrSkill
			if have&set != 0 {
				want = api.OK
			}
			p.Jobs[1].Skills, p.Shipments[0].Skills, p.Jobs[0].Skills = set, set, 0
			tells(t, "a job's skill", p, 0, list(job(0), job(1)), want)
			tells(t, "a shipment's skill", p, 0, list(pickup(0), job(0), delivery(0)), want)
			tells(t, "a task's skill that isn't in the list", p, 0, list(job(0)), api.OK)
		}
	}
	p.Vehicles[0].Skills, p.Jobs[0].Skills, p.Jobs[1].Skills = 1, 1, 3
	tells(t, "one of two skills", p, 0, list(job(0), job(1)), api.ErrSkill)
	tells(t, "one of two skills", p, 0, list(job(1), job(0)), api.ErrSkill)
	tells(t, "one of one skill", p, 0, list(job(0)), api.OK)
}

// TestErrTasks: jobs and pickups count, deliveries and breaks don't.
func TestErrTasks(t *testing.T) {
	p := town()
	for _, c := range []struct {
		l []api.Visit
		n int
	}{
		{nil, 0},
		{list(job(0)), 1},
		{list(job(0), job(2)), 2},
		{list(pickup(0), delivery(0)), 1},
		{list(pickup(0), pickup(1), delivery(0), delivery(1)), 2},
		{list(job(1), pickup(0), delivery(0)), 2},
		{list(job(2), job(1), pickup(1), delivery(1), job(0)), 4},
		{list(pickup(1), job(0), pickup(0), job(1), delivery(1), job(2), delivery(0)), 5},
	} {
		for most := range 13 {
			p.Vehicles[0].MaxTasks = most
			want := api.OK
			if c.n > most {
				want = api.ErrTasks
			}
			tells(t, fmt.Sprint("at most ", most), p, 0, append(slices.Clone(c.l), pause(0), pause(1)), want)
			tells(t, fmt.Sprint("at most ", most), p, 0, append(list(pause(0), pause(1)), c.l...), want)
		}
	}
}

// TestErrLoad: the greatest load, in each dimension, at the start, between and at the end: held just so, and one more than is held.
func TestErrLoad(t *testing.T) {
	for dims := 1; dims <= 3; dims++ {
		for d := range dims {
			amount := func(n int) []int {
				a := make([]int, dims)
				a[d] = n
				return a
			}
			p := bare()
			p.Dims = dims
			for i, c := range [][2]int{{9, 0}, {0, 9}, {5, 4}} {
				p.Jobs[i].Drop, p.Jobs[i].Pick = amount(c[0]), amount(c[1])
			}
			for i, n := range []int{9, 4} {
				p.Shipments[i].Amount = amount(n)
			}
			for _, c := range []struct {
				l    []api.Visit
				most int
			}{
				{nil, 0},
				{list(job(0)), 9},
				{list(job(1)), 9},
				{list(job(2)), 5},
				{list(job(0), job(1)), 9},
				{list(job(1), job(0)), 18},
				{list(job(2), job(0)), 14},
				{list(job(0), job(2)), 14},
				{list(job(2), job(1)), 13},
				{list(job(1), job(2)), 14},
				{list(job(0), job(2), job(1)), 14},
				{list(pickup(0), delivery(0)), 9},
				{list(pickup(0), delivery(0), pickup(1), delivery(1)), 9},
				{list(pickup(0), pickup(1), delivery(0), delivery(1)), 13},
				{list(pickup(1), delivery(1), job(0)), 13},
				{list(job(0), pickup(1), delivery(1)), 9},
				{list(job(1), pickup(1), delivery(1)), 13},
				{list(pickup(1), job(1), delivery(1)), 13},
				{list(pickup(1), delivery(1), job(1)), 9},
				{list(pickup(1), job(2), delivery(1)), 9},
			} {
				for most := range 20 {
					p.Vehicles[0].Cap = amount(most)
					want := api.OK
					if c.most > most {
						want = api.ErrLoad
					}
					tells(t, fmt.Sprintf("dimension %d of %d, capacity %d", d, dims, most), p, 0, c.l, want)
				}
			}
		}
	}
}

// TestErrLoadEachDimension: capacities that are enough in all dimensions but one.
func TestErrLoadEachDimension(t *testing.T) {
	p := bare()
	p.Dims = 3
	for i := range p.Jobs {
		p.Jobs[i].Drop, p.Jobs[i].Pick = []int{0, 0, 0}, []int{0, 0, 0}
	}
	for i := range p.Shipments {
		p.Shipments[i].Amount = []int{0, 0, 0}
	}
	p.Jobs[0].Drop = []int{10, 20, 30}
	for _, c := range []struct {
		cap []int
		e   api.Errno
	}{
		{[]int{10, 20, 30}, api.OK}, {[]int{9, 20, 30}, api.ErrLoad}, {[]int{10, 19, 30}, api.ErrLoad}, {[]int{10, 20, 29}, api.ErrLoad},
		{[]int{1000000, 1000000, 29}, api.ErrLoad}, {[]int{9, 1000000, 1000000}, api.ErrLoad}, {[]int{30, 20, 10}, api.ErrLoad}, {[]int{1000000, 1000000, 1000000}, api.OK},
	} {
		p.Vehicles[0].Cap = c.cap
		tells(t, fmt.Sprint(c.cap), p, 0, list(job(0)), c.e)
	}
}

// TestErrLoadNoDimension: of nothing there is never too much.
func TestErrLoadNoDimension(t *testing.T) {
	p := line()
	p.Vehicles[0].Cap = []int{}
	tells(t, "no dimension", p, 0, list(job(0)), api.OK)
	p.Vehicles[0].Cap = nil
	tells(t, "no dimension", p, 0, list(job(0)), api.OK)
}

// TestErrTravel: each pair of places without a way, by Time alone, by Dist alone and by both: at the start, between, around breaks, at the end.
func TestErrTravel(t *testing.T) {
	for _, c := range []struct {
		l    []api.Visit
		ways [][2]int
	}{
		{list(pause(0), pause(1)), [][2]int{{0, 3}}},
		{list(job(0), pause(0), pause(1)), [][2]int{{0, 1}, {1, 3}}},
		{list(pause(0), pause(1), job(0)), [][2]int{{0, 1}, {1, 3}}},
		{list(pause(0), job(0), pause(1)), [][2]int{{0, 1}, {1, 3}}},
		{list(pause(0), job(0), pause(1), job(1)), [][2]int{{0, 1}, {1, 2}, {2, 3}}},
		{list(job(0), pause(0), pause(1), job(1)), [][2]int{{0, 1}, {1, 2}, {2, 3}}},
		{list(job(1), pause(0), job(2), pause(1)), [][2]int{{0, 2}, {2, 3}}},
		{list(pause(0), pickup(1), pause(1), delivery(1)), [][2]int{{0, 2}, {2, 3}}},
		{list(pickup(0), pause(0), delivery(0), pause(1), job(1)), [][2]int{{0, 2}, {2, 1}, {1, 2}, {2, 3}}},
		{list(job(2), pause(0), job(0), pause(1)), [][2]int{{0, 3}, {3, 1}, {1, 3}}},
		{tour0(), [][2]int{{0, 1}, {1, 2}, {2, 3}, {3, 1}, {1, 3}}},
	} {
		for from := range 4 {
			for to := range 4 {
				if from == to {
					continue
				}
				want := api.OK
				if slices.Contains(c.ways, [2]int{from, to}) {
					want = api.ErrTravel
				}
				for _, which := range []int{1, 2, 3} {
					p := town()
					if which&1 > 0 {
						p.Time.Cells[4*from+to] = -1
					}
					if which&2 > 0 {
						p.Dist.Cells[4*from+to] = -1
					}
					tells(t, fmt.Sprintf("no way from %d to %d (%d)", from, to, which), p, 0, c.l, want)
				}
			}
		}
	}
}

// TestWayOfNothing: a way of time 0 or distance 0 is one.
func TestWayOfNothing(t *testing.T) {
	p := town()
	p.Time, p.Dist = square(4, make([]int, 16)...), square(4, make([]int, 16)...)
	tells(t, "no time, no distance", p, 0, tour0(), api.OK)
	p = town()
	p.Time = square(4, make([]int, 16)...)
	tells(t, "no time", p, 0, tour0(), api.OK)
	p = town()
	p.Dist = square(4, make([]int, 16)...)
	tells(t, "no distance", p, 0, tour0(), api.OK)
}

// TestErrTimeWindows: each visit of a tour, and each break, with windows that are met at their ends, and missed by one.
func TestErrTimeWindows(t *testing.T) {
	base, e := Of(town(), 0, tour0())
	if e != api.OK {
		t.Fatal("the town's tour isn't right")
	}
	for i, v := range tour0() {
		at := base.Steps[1+i].Arrival
		for _, c := range []struct {
			windows []api.Window
			e       api.Errno
			wait    int
		}{
			{spans(0, at), api.OK, 0},
			{spans(at, at), api.OK, 0},
			{spans(at, at+9), api.OK, 0},
			{spans(0, at-1), api.ErrTime, 0},
			{spans(at-1, at-1), api.ErrTime, 0},
			{spans(0, 0), api.ErrTime, 0},
			{spans(at+1, at+1), api.OK, 1},
			{spans(at+9, at+20), api.OK, 9},
			{spans(0, at-1, at+1, at+5), api.OK, 1},
			{spans(0, at-3, at-1, at+5), api.OK, 0},
			{spans(0, 1, 3, 4, 6, at-1, at+4, at+4), api.OK, 4},
			{spans(0, 1, 3, 4, 6, 7, 9, at-1), api.ErrTime, 0},
			{spans(0, 1, 3, 4, 6, 7, 9, at), api.OK, 0},
			{spans(0, 1, at, at, at+1, at+1, at+2, 1000000), api.OK, 0},
			{spans(1000000, 1000000), api.ErrTime, 0}, // the shift ends ahead of it
			{spans(900, 900), api.OK, 900 - at},
		} {
			p := town()
			*windowsOf(&p, v) = c.windows
			tells(t, fmt.Sprintf("%v: %v, come to at %d", v, c.windows, at), p, 0, tour0(), c.e)
			x, e := Of(p, 0, tour0())
			if e == api.OK && (x.Steps[1+i].Wait != c.wait || x.Wait != c.wait || x.Steps[1+i].Arrival != at || x.Steps[10].Arrival != base.Steps[10].Arrival+c.wait) {
				t.Errorf("P13.1: %v: %v: %+v", v, c.windows, x)
			}
		}
	}
}

// windowsOf: a visit's windows in a problem.
func windowsOf(p *api.Problem, v api.Visit) *[]api.Window {
	switch v.Kind {
	case api.AtJob:
		return &p.Jobs[v.Item].Stop.Windows
	case api.AtPickup:
		return &p.Shipments[v.Item].Pickup.Windows
	case api.AtDelivery:
		return &p.Shipments[v.Item].Delivery.Windows
	}
	return &p.Vehicles[0].Breaks[v.Item].Windows
}

// TestErrTimeShift: the shift's end met and missed by one, and its beginning moved.
func TestErrTimeShift(t *testing.T) {
	for _, l := range [][]api.Visit{tour0(), list(pause(0), pause(1)), list(job(0), pause(0), pause(1)), list(pause(0), pause(1), job(2))} {
		for _, from := range []int{0, 1, 20, 21, 500, 900000} {
			p := town()
			p.Vehicles[0].Shift = api.Window{From: from, To: 1000000}
			x, e := Of(p, 0, l)
			if e != api.OK {
				t.Fatal(e)
			}
			ends := x.Steps[len(x.Steps)-1].Arrival
			if x.Steps[0].Arrival != from || ends != from+x.Time+x.Wait+x.Service {
				t.Errorf("P13.1: from %d on: %+v", from, x)
			}
			for _, c := range []struct {
				to int
				e  api.Errno
			}{{ends, api.OK}, {ends + 1, api.OK}, {ends - 1, api.ErrTime}, {ends - 2, api.ErrTime}, {from, api.ErrTime}} {
				p.Vehicles[0].Shift.To = c.to
				tells(t, fmt.Sprintf("shift %d to %d", from, c.to), p, 0, l, c.e)
			}
		}
	}
}

// TestShiftBindsTheEndAlone: a visit may begin behind no one's shift only by its windows; the end behind it is what is too late.
func TestShiftBindsTheEndAlone(t *testing.T) {
	p := line()
	p.Vehicles[0].Shift.To = 45
	tells(t, "comes back at 45", p, 0, list(job(0)), api.OK)
	p.Vehicles[0].Shift.To = 44
	tells(t, "comes back at 45", p, 0, list(job(0)), api.ErrTime)
	p.Vehicles[0].End = 1
	p.Vehicles[0].Shift.To = 35
	tells(t, "leaves the job at 35", p, 0, list(job(0)), api.OK)
	p.Vehicles[0].Shift.To = 34
	tells(t, "leaves the job at 35", p, 0, list(job(0)), api.ErrTime)
	p.Vehicles[0].Shift = api.Window{From: 7, To: 7}
	p.Vehicles[0].End = 0
	tells(t, "a shift of one moment", p, 0, nil, api.OK)
}

// wrong is something that makes one of Of's errors hold, and those ahead of it not.
type wrong struct {
	e     api.Errno
	spoil func(p *api.Problem, vehicle *int, l *[]api.Visit)
}

// wrongs: of each error some ways to have it, in the order of the errors.
func wrongs() [][]wrong {
	type P = *api.Problem
	type N = *int
	type L = *[]api.Visit
	return [][]wrong{
		{
			{api.ErrVehicle, func(p P, n N, l L) { *n = 1 }},
			{api.ErrVehicle, func(p P, n N, l L) { *n = -1 }},
		}, {
			{api.ErrVisit, func(p P, n N, l L) { *l = append(*l, job(3)) }},
			{api.ErrVisit, func(p P, n N, l L) { *l = append(list(end()), *l...) }},
			{api.ErrVisit, func(p P, n N, l L) { *l = append(*l, pickup(1)) }},
		}, {
			{api.ErrBreak, func(p P, n N, l L) { p.Vehicles[0].Breaks = p.Vehicles[0].Breaks[:1] }},
			{api.ErrBreak, func(p P, n N, l L) { *l = append(*l, pause(2)) }},
			{api.ErrBreak, func(p P, n N, l L) { *l = append(list(pause(1)), *l...) }},
		}, {
			{api.ErrSkill, func(p P, n N, l L) { p.Jobs[0].Skills = 1 << 50 }},
			{api.ErrSkill, func(p P, n N, l L) { p.Shipments[0].Skills = 12 }},
			{api.ErrSkill, func(p P, n N, l L) { p.Vehicles[0].Skills = 3 }},
		}, {
			{api.ErrTasks, func(p P, n N, l L) { p.Vehicles[0].MaxTasks = 4 }},
			{api.ErrTasks, func(p P, n N, l L) { p.Vehicles[0].MaxTasks = 0 }},
		}, {
			{api.ErrLoad, func(p P, n N, l L) { p.Vehicles[0].Cap = []int{200, 69} }},
			{api.ErrLoad, func(p P, n N, l L) { p.Jobs[2].Drop = []int{51, 0} }},
			{api.ErrLoad, func(p P, n N, l L) { p.Shipments[1].Amount = []int{81, 0} }},
		}, {
			{api.ErrTravel, func(p P, n N, l L) { p.Time.Cells[1] = -1 }},
			{api.ErrTravel, func(p P, n N, l L) { p.Dist.Cells[7] = -1 }},
			{api.ErrTravel, func(p P, n N, l L) { p.Dist.Cells[6] = -1 }},
		}, {
			{api.ErrTime, func(p P, n N, l L) { p.Vehicles[0].Shift.To = 100 }},
			{api.ErrTime, func(p P, n N, l L) { p.Jobs[2].Stop.Windows = spans(0, 30) }},
			{api.ErrTime, func(p P, n N, l L) { p.Vehicles[0].Breaks[0].Windows = spans(0, 20) }},
		},
	}
}

// TestErrorOrder: of all that is wrong the first is told: each error alone, and with each choice of those behind it.
func TestErrorOrder(t *testing.T) {
	all := wrongs()
	choice := make([]int, len(all))
	for {
		p, vehicle, l, want := town(), 0, tour0(), api.OK
		for i, c := range choice {
			if c > 0 {
				all[i][c-1].spoil(&p, &vehicle, &l)
				if want == api.OK {
					want = all[i][c-1].e
				}
			}
		}
		tells(t, fmt.Sprint("wrongs ", choice), p, vehicle, l, want)
		at := 0
		for at < len(all) && choice[at] == len(all[at]) {
			choice[at] = 0
			at++
		}
		if at == len(all) || t.Failed() {
			return
		}
		choice[at]++
	}
}

// TestErrorOfTheWhole: an error that is named first is told though another stands ahead of it in the list.
func TestErrorOfTheWhole(t *testing.T) {
	p := town()
	p.Jobs[0].Stop.Windows = spans(0, 0)
	p.Time.Cells[13] = -1
	tells(t, "late at once, and a way lacks that isn't driven", p, 0, list(job(0), pause(0), pause(1), job(2), pickup(0), delivery(0)), api.ErrTime)
	tells(t, "late at once, then no way", p, 0, list(job(0), pickup(0), job(2), delivery(0), pause(0), pause(1)), api.ErrTravel)
	p.Vehicles[0].Cap = []int{20, 24}
	tells(t, "late, no way, then too much", p, 0, list(job(0), job(2), job(1), pickup(0), delivery(0), pause(0), pause(1)), api.ErrLoad)
	p.Vehicles[0].MaxTasks = 3
	tells(t, "then one task too many", p, 0, list(job(0), job(2), job(1), pickup(0), delivery(0), pause(0), pause(1)), api.ErrTasks)
	p.Shipments[0].Skills = 1 << 61
	tells(t, "which lacks a skill", p, 0, list(job(0), job(2), job(1), pickup(0), delivery(0), pause(0), pause(1)), api.ErrSkill)
	tells(t, "then a break out of order", p, 0, list(job(0), job(2), job(1), pickup(0), delivery(0), pause(1), pause(0)), api.ErrBreak)
	tells(t, "then a job once more", p, 0, list(job(0), job(2), job(1), pickup(0), delivery(0), pause(1), pause(0), job(0)), api.ErrVisit)
	tells(t, "of no vehicle", p, 1, list(job(0), job(2), job(1), pickup(0), delivery(0), pause(1), pause(0), job(0)), api.ErrVehicle)
}

// TestEachList: each list of up to five visits, those that are there and some that aren't, held against the chapter's words.
func TestEachList(t *testing.T) {
	p := town()
	p.Vehicles[0].Breaks = p.Vehicles[0].Breaks[:1]
	p.Vehicles[0].Cap = []int{30, 200}
	p.Vehicles[0].Skills = 6
	p.Jobs[0].Skills = 2
	p.Vehicles[0].MaxTasks = 2
	p.Vehicles[0].Shift.To = 70
	p.Vehicles[0].Breaks[0].Windows = spans(0, 33, 40, 45)
	p.Jobs[2].Stop.Windows = spans(27, 390)
	p.Time.Cells[4*1+2] = -1
	// The reckoning looks no farther than 400, behind which no list comes.
	lawful(t, p)
	visits := list(job(0), job(1), job(2), pickup(0), delivery(0), pause(0), pickup(1), delivery(1), pause(1), job(3), start())
	seen := map[api.Errno]int{}
	var l []api.Visit
	var grow func()
	grow = func() {
		want, e := reckoned(p, 0, l)
		seen[e]++
		if got, is := Of(p, 0, l); is != e || !same(got, want) {
			t.Fatalf("P13.1: Of(%v):\n%+v, %d, want\n%+v, %d", l, got, is, want, e)
		}
		if len(l) == 5 {
			return
		}
		for _, v := range visits {
			l = append(l, v)
			grow()
			l = l[:len(l)-1]
		}
	}
	grow()
	for _, e := range []api.Errno{api.OK, api.ErrVisit, api.ErrBreak, api.ErrSkill, api.ErrTasks, api.ErrLoad, api.ErrTravel, api.ErrTime} {
		if seen[e] < 4 {
			t.Errorf("only %d lists of the answer %d", seen[e], e)
		}
	}
}

// TestDrawn: drawn problems and lists, right and wrong ones, held against the chapter's words, the same in each run.
func TestDrawn(t *testing.T) {
	r := rand.New(rand.NewSource(13))
	seen := map[api.Errno]int{}
	for range 150000 {
		p := drawnProblem(r)
		vehicle := r.Intn(len(p.Vehicles))
		l := drawnRoute(r, p)
		l = Set(l, drawnPlaces(r, len(p.Vehicles[vehicle].Breaks), len(l)))
		if r.Intn(5) == 0 {
			l = spoilt(r, l)
		}
		if r.Intn(40) == 0 {
			vehicle = r.Intn(6) - 1
		}
		want, e := reckoned(p, vehicle, l)
		seen[e]++
		if got, is := Of(p, vehicle, l); is != e || !same(got, want) {
			t.Fatalf("P13.1: %+v\nOf(%d, %v):\n%+v, %d, want\n%+v, %d", p, vehicle, l, got, is, want, e)
		}
	}
	for _, e := range []api.Errno{api.OK, api.ErrVehicle, api.ErrVisit, api.ErrBreak, api.ErrSkill, api.ErrTasks, api.ErrLoad, api.ErrTravel, api.ErrTime} {
		if seen[e] < 1000 {
			t.Errorf("only %d lists of the answer %d were drawn", seen[e], e)
		}
	}
}

// TestGreatest: as many tasks, and numbers as great, as there may be: no figure wraps.
func TestGreatest(t *testing.T) {
	const big = 1000000
	m := square(2, 0, 32*big, 32*big, 0)
	zero := square(2, 0, 0, 0, 0)
	p := api.Problem{
		Dims: 1, Time: zero, Dist: m,
		Vehicles: []api.Vehicle{{Cap: []int{big}, Shift: api.Window{To: big}, Fixed: big, PerTime: big, PerDist: big, MaxTasks: 12}},
	}
	var l []api.Visit
	for i := range 12 {
		p.Shipments = append(p.Shipments, api.Shipment{Pickup: api.Stop{Place: 1, Windows: always()}, Delivery: api.Stop{Windows: always()}, Amount: []int{big}})
		l = append(l, pickup(i), delivery(i))
	}
	lawful(t, p)
	x, e := Of(p, 0, l)
	if e != api.OK || x.Dist != 24*32*big || x.Cost != big+24*32*big*big || x.Time != 0 || len(x.Steps) != 26 || x.Steps[23].Load[0] != big || x.Steps[25].Load[0] != 0 {
		t.Errorf("P6: %+v, %d", x, e)
	}
	p.Time, p.Dist = m, zero
	tells(t, "times beyond the day", p, 0, l, api.ErrTime)
	tells(t, "times beyond the day", p, 0, list(pickup(0), delivery(0)), api.ErrTime)
	p.Vehicles[0].Cap[0] = big - 1
	tells(t, "one amount too much", p, 0, l, api.ErrLoad)
	p.Time = square(2, 0, big, 0, 0)
	p.Vehicles[0].Cap[0] = big
	x, e = Of(p, 0, list(pickup(0), delivery(0)))
	if e != api.OK || x.Time != big || x.Cost != big+big*big || x.Steps[3].Arrival != big {
		t.Errorf("P6: %+v, %d", x, e)
	}
	p.Shipments[0].Pickup.Service = 1
	tells(t, "a moment behind the day", p, 0, list(pickup(0), delivery(0)), api.ErrTime)
}
