package exact_test

import (
	"testing"

	"haulier/api"
	"haulier/exact"
)

// bests: is the best of a problem one of these lists of visits (the empty one: no route)?
func bests(t *testing.T, what string, p api.Problem, want ...[]api.Visit) {
	t.Helper()
	lawful(t, p)
	got, ok := exact.Best(p)
	if !ok {
		t.Fatalf("P19.2: %s: none", what)
	}
	for _, visits := range want {
		s := api.Solution{}
		if len(visits) > 0 {
			s.Routes = []api.Route{{Vehicle: 0, Visits: visits}}
		}
		if same(got, s) {
			return
		}
	}
	t.Errorf("P19.2: %s: %v, want one of %v", what, got, want)
}

// scores: has the best of a problem this score?
func scores(t *testing.T, what string, p api.Problem, value, cost int) {
	t.Helper()
	lawful(t, p)
	s, ok := exact.Best(p)
	if got := scored(t, p, s); !ok || got != (api.Score{Value: value, Cost: cost}) {
		t.Errorf("P19.2: %s: %v, %v of score %v, want %d, %d", what, s, ok, got, value, cost)
	}
}

// TestBestExamples: those of the chapter.
func TestBestExamples(t *testing.T) {
	p := village(1, 2, 3)
	p.Vehicles = nil
	bests(t, "no vehicles", p, nil)
	p = village(1)
	p.Jobs[0].Priority = 0
	bests(t, "a job of priority 0", p, nil)
	p = village(1)
	p.Vehicles = cars(2)
	lawful(t, p)
	if s, ok := exact.Best(p); ok || s.Routes != nil {
		t.Errorf("P19.2: two vehicles: %v, %v", s, ok)
	}
}

// TestBestEmpty: where no task brings Value the best is the empty solution, though it costs nothing to drive.
func TestBestEmpty(t *testing.T) {
	bests(t, "no tasks", village(), nil)
	p := village(0, 1)
	p.Jobs[0].Priority, p.Jobs[1].Priority = 0, 0
	p.Shipments = []api.Shipment{{Pickup: stop(0), Delivery: stop(0)}}
	bests(t, "for nothing", p, nil)
	p.Vehicles[0].PerTime = 0
	bests(t, "all for nothing", p, nil)
	p.Jobs[0].Priority = 1
	scores(t, "one that brings Value", p, 1, 0)
	p.Vehicles[0].MaxTasks = 0
	bests(t, "no task is taken", p, nil)
}

// TestBestOrder: the cheapest way round.
func TestBestOrder(t *testing.T) {
	bests(t, "there or back", village(3, 1, 2), list(job(1), job(2), job(0)), list(job(0), job(2), job(1)), list(job(1), job(0), job(2)), list(job(2), job(0), job(1)))
	scores(t, "there and back", village(3, 1, 8, 2, 7, 5, 4, 6), 8, 160)
	p := village(3, 1, 2)
	p.Vehicles[0].End = 8
	bests(t, "one way", p, list(job(1), job(2), job(0)))
	p.Vehicles[0].Start, p.Vehicles[0].End = 8, 0
	bests(t, "the other way", p, list(job(0), job(2), job(1)))
	p.Vehicles[0].End, p.Vehicles[0].PerTime, p.Vehicles[0].PerDist, p.Vehicles[0].Fixed = 8, 3, 5, 7
	scores(t, "what it costs", p, 3, 7+140*8)
}

// TestBestValue: more Value goes ahead of less Cost, however much; of equal Value the less Cost.
func TestBestValue(t *testing.T) {
	p := village(1, 8)
	p.Vehicles[0].PerTime, p.Vehicles[0].Fixed = 1000000, 1000000
	scores(t, "both", p, 2, 161*1000000)
	p.Vehicles[0].MaxTasks = 1
	bests(t, "the nearer one", p, list(job(0)))
	p.Jobs[1].Priority = 2
	bests(t, "the dearer one", p, list(job(1)))
	p.Jobs[0].Priority = 2
	bests(t, "both dear", p, list(job(0)))
	// Three at 1 and two at 2, or one at 8 of priority 5: not both.
	p = village(1, 1, 1, 8)
	for i := range 3 {
		p.Jobs[i].Stop.Service = 30
	}
	p.Jobs[0].Priority, p.Jobs[1].Priority, p.Jobs[2].Priority, p.Jobs[3].Priority = 2, 2, 2, 5
	p.Vehicles[0].Shift.To = 170
	scores(t, "three for one", p, 6, 20)
	p.Jobs[3].Priority = 6
	scores(t, "three for as much", p, 6, 20)
	p.Jobs[3].Priority = 7
	scores(t, "one for three", p, 7, 160)
	p.Vehicles[0].Shift.To = 190
	scores(t, "one and one", p, 9, 160)
}

// TestBestWindows: what must be early goes ahead, though it's dearer; what can't be is left.
func TestBestWindows(t *testing.T) {
	p := village(1, 2, 3)
	p.Jobs[2].Stop.Windows = spans(30, 30)
	p.Jobs[0].Stop.Windows = spans(50, 50)
	bests(t, "there, and one on the way back", p, list(job(1), job(2), job(0)), list(job(2), job(1), job(0)))
	p.Jobs[0].Stop.Windows, p.Jobs[1].Stop.Windows = spans(10, 10), spans(20, 30)
	p.Jobs[0].Stop.Service = 10
	bests(t, "one is too late by ten", p, list(job(0), job(1)))
	p.Jobs[2].Priority = 3
	bests(t, "another one is too late", p, list(job(1), job(2)))
	p.Jobs[2].Stop.Windows = spans(30, 30, 60, 100, 500, 600)
	scores(t, "a later window", p, 5, 60)
	p = village(4)
	p.Vehicles[0].Shift = api.Window{From: 5, To: 85}
	bests(t, "back in time", p, list(job(0)))
	p.Vehicles[0].Shift.To = 84
	bests(t, "back too late", p, nil)
	p.Vehicles[0].Shift.To, p.Jobs[0].Stop.Windows = 85, spans(0, 44)
	bests(t, "there too late", p, nil)
	p.Jobs[0].Stop.Windows = spans(45, 45)
	bests(t, "there in time", p, list(job(0)))
	p.Jobs[0].Stop.Service = 1
	bests(t, "it takes too long", p, nil)
}

// split: places 0 to 3; from 0 to 3 by way of 1, then 2, it's quick and dear, the other way round slow and cheap.
func split() api.Problem {
	time := square(4, 0, 1, 5, 50, 50, 0, 1, 5, 50, 5, 0, 1, 50, 50, 50, 0)
	dist := square(4, 0, 9, 1, 90, 90, 0, 9, 1, 90, 1, 0, 9, 90, 90, 90, 0)
	p := api.Problem{Time: time, Dist: dist, Vehicles: cars(1)}
	p.Vehicles[0].End, p.Vehicles[0].PerTime, p.Vehicles[0].PerDist = 3, 0, 1
	for place := 1; place <= 3; place++ {
		p.Jobs = append(p.Jobs, api.Job{Stop: stop(place), Priority: 1})
	}
	return p
}

// TestBestQuickOrCheap: of two beginnings the one is quicker, the other cheaper: what comes behind tells which is wanted.
func TestBestQuickOrCheap(t *testing.T) {
	p := split()
	bests(t, "the cheap way", p, list(job(1), job(0), job(2)))
	p.Jobs[2].Stop.Windows = spans(0, 15)
	bests(t, "the cheap way, just in time", p, list(job(1), job(0), job(2)))
	p.Jobs[2].Stop.Windows = spans(0, 14)
	bests(t, "the quick way", p, list(job(0), job(1), job(2)))
	p.Jobs[2].Stop.Windows = spans(0, 3)
	bests(t, "the quick way, just in time", p, list(job(0), job(1), job(2)))
	p.Jobs[2].Stop.Windows = spans(20, 30)
	bests(t, "the cheap way, and waiting", p, list(job(1), job(0), job(2)))
	p.Vehicles[0].PerDist, p.Vehicles[0].PerTime = 0, 1
	bests(t, "where time is paid", p, list(job(0), job(1), job(2)))
}

// TestBestWaits: one waits for nothing that must be paid; who comes earlier isn't worse.
func TestBestWaits(t *testing.T) {
	p := village(1, 2)
	p.Jobs[0].Stop.Windows = spans(500, 600)
	p.Jobs[1].Stop.Windows = spans(0, 400)
	p.Vehicles[0].End = 2
	bests(t, "back and there again", p, list(job(1), job(0)))
	p.Jobs[1].Stop.Windows = spans(0, 400, 510, 600)
	bests(t, "waiting costs nothing", p, list(job(0), job(1)))
}

// TestBestLoads: what is dropped is aboard from the start on, what is picked to the end.
func TestBestLoads(t *testing.T) {
	p := village(1, 2)
	p.Dims, p.Vehicles[0].Cap, p.Vehicles[0].End = 1, []int{10}, 8
	load := func(drop, pick, otherDrop, otherPick int) {
		p.Jobs[0].Drop, p.Jobs[0].Pick, p.Jobs[1].Drop, p.Jobs[1].Pick = []int{drop}, []int{pick}, []int{otherDrop}, []int{otherPick}
	}
	load(5, 5, 5, 5)
	bests(t, "just in", p, list(job(0), job(1)))
	load(0, 10, 10, 0)
	bests(t, "first dropped, then picked", p, list(job(1), job(0)))
	load(6, 0, 5, 0)
	scores(t, "both at the start are too much", p, 1, 80)
	load(0, 6, 0, 5)
	scores(t, "both at the end are too much", p, 1, 80)
	load(10, 10, 0, 0)
	bests(t, "full all the way", p, list(job(0), job(1)))
	load(11, 0, 0, 0)
	bests(t, "too much alone", p, list(job(1)))
	load(4, 7, 3, 0)
	bests(t, "between both, one way round", p, list(job(0), job(1)))
	load(4, 8, 3, 0)
	bests(t, "between both, the other way round", p, list(job(1), job(0)))
	p.Shipments = []api.Shipment{{Pickup: stop(3), Delivery: stop(4), Amount: []int{3}, Priority: 1}}
	load(7, 7, 0, 0)
	bests(t, "a shipment beside it", p, list(job(0), job(1), pickup(0), delivery(0)))
	load(8, 7, 0, 0)
	bests(t, "behind what is dropped", p, list(job(0), job(1), pickup(0), delivery(0)))
	load(7, 8, 0, 0)
	bests(t, "ahead of what is picked", p, list(job(1), pickup(0), delivery(0), job(0)), list(pickup(0), delivery(0), job(1), job(0)))
	p.Shipments[0].Amount = []int{11}
	bests(t, "too much", p, list(job(0), job(1)))
}

// TestBestDropsToCome: of two beginnings the one had more aboard at a time: that matters by what is dropped behind.
func TestBestDropsToCome(t *testing.T) {
	// On the way to 2 there's a job that is dropped and one that is picked; the pick first is cheaper.
	p := village(1, 2, 3)
	p.Dims, p.Vehicles[0].Cap, p.Vehicles[0].End = 1, []int{10}, 8
	p.Jobs[0].Drop, p.Jobs[0].Pick = []int{0}, []int{4}
	p.Jobs[1].Drop, p.Jobs[1].Pick = []int{4}, []int{0}
	for drop, want := range map[int][]api.Visit{
		0: list(job(0), job(1), job(2)), 2: list(job(0), job(1), job(2)),
		3: list(job(1), job(0), job(2)), 6: list(job(1), job(0), job(2)),
	} {
		p.Jobs[2].Drop, p.Jobs[2].Pick = []int{drop}, []int{0}
		p.Jobs[2].Stop.Windows = spans(0, 50)
		bests(t, "what is dropped last tells what is first", p, want)
	}
}

// TestBestDims: each dimension has room of its own.
func TestBestDims(t *testing.T) {
	p := village(1, 2, 3)
	p.Dims, p.Vehicles[0].Cap, p.Vehicles[0].End = 3, []int{5, 5, 5}, 8
	for i := range p.Jobs {
		p.Jobs[i].Drop, p.Jobs[i].Pick = []int{0, 0, 0}, []int{0, 0, 0}
		p.Jobs[i].Drop[i] = 5
	}
	bests(t, "each full", p, list(job(0), job(1), job(2)))
	for d := range 3 {
		p.Vehicles[0].Cap = []int{5, 5, 5}
		p.Vehicles[0].Cap[d] = 4
		scores(t, "one too much", p, 2, 80)
	}
}

// TestBestShipments: a pickup ahead of its delivery, whole or not at all.
func TestBestShipments(t *testing.T) {
	p := village()
	p.Shipments = []api.Shipment{{Pickup: stop(1), Delivery: stop(3), Priority: 2}, {Pickup: stop(2), Delivery: stop(4), Priority: 1}}
	p.Vehicles[0].End = 8
	bests(t, "one in the other", p, list(pickup(0), pickup(1), delivery(0), delivery(1)))
	p.Shipments[1].Pickup, p.Shipments[1].Delivery = stop(4), stop(2)
	scores(t, "against the way", p, 3, 120)
	p.Shipments[1].Delivery.Windows = spans(0, 59)
	bests(t, "its delivery is too late", p, list(pickup(0), delivery(0)))
	p.Shipments[1].Delivery.Windows = spans(0, 60)
	scores(t, "its delivery is in time", p, 3, 120)
	p.Vehicles[0].MaxTasks = 1
	bests(t, "one task", p, list(pickup(0), delivery(0)))
	p.Shipments[1].Priority = 3
	bests(t, "the other task", p, list(pickup(1), delivery(1)))
	p.Vehicles[0].MaxTasks = 2
	scores(t, "two tasks, four visits", p, 5, 120)
	p = village()
	p.Vehicles[0].End = 8
	for i := range 4 {
		p.Shipments = append(p.Shipments, api.Shipment{Pickup: stop(4 - i), Delivery: stop(5 + i), Priority: 1})
	}
	bests(t, "four, one in the other", p, list(pickup(3), pickup(2), pickup(1), pickup(0), delivery(0), delivery(1), delivery(2), delivery(3)))
}

// TestBestSkills: tasks whose skills the vehicle lacks are left.
func TestBestSkills(t *testing.T) {
	p := village(1, 2, 3)
	p.Jobs[0].Skills, p.Jobs[1].Skills = 1, 2
	p.Shipments = []api.Shipment{{Pickup: stop(4), Delivery: stop(5), Skills: 6, Priority: 1}}
	p.Vehicles[0].End = 8
	bests(t, "none", p, list(job(2)))
	p.Vehicles[0].Skills = 2
	bests(t, "one", p, list(job(1), job(2)))
	p.Vehicles[0].Skills = 5
	bests(t, "two", p, list(job(0), job(2)))
	p.Vehicles[0].Skills = 6
	bests(t, "others", p, list(job(1), job(2), pickup(0), delivery(0)))
	p.Vehicles[0].Skills = 1<<62 - 1
	bests(t, "all", p, list(job(0), job(1), job(2), pickup(0), delivery(0)))
}

// TestBestWays: where there is no way, by either matrix, none is gone; the straight way isn't always the cheapest.
func TestBestWays(t *testing.T) {
	p := village(1, 2)
	p.Vehicles[0].End = 8
	p.Time.Cells[0*9+1] = -1
	bests(t, "no way to the first", p, list(job(1), job(0)))
	p.Dist.Cells[2*9+1] = -1
	bests(t, "and none from the second", p, list(job(1)))
	p.Jobs[0].Priority = 2
	bests(t, "and none to it", p, list(job(1)))
	p = village(1)
	p.Time.Cells[1*9+0] = -1
	bests(t, "no way back", p, nil)
	p.Jobs = append(p.Jobs, api.Job{Stop: stop(2)})
	bests(t, "a way back", p, list(job(0), job(1)))
	p.Jobs = p.Jobs[:1]
	p.Shipments = []api.Shipment{{Pickup: stop(2), Delivery: stop(2)}}
	bests(t, "a way back by a shipment", p, list(job(0), pickup(0), delivery(0)))
}

// TestBestDetour: a task of priority 0 is driven where that spares cost, and only there.
func TestBestDetour(t *testing.T) {
	p := village(1, 2)
	p.Jobs[1].Priority = 0
	bests(t, "nothing spared", p, list(job(0)))
	p.Time.Cells[0*9+1] = 31
	bests(t, "one way spared", p, list(job(1), job(0)))
	p.Time.Cells[0*9+1] = 29
	bests(t, "nearly spared", p, list(job(0)))
	p.Time.Cells[1*9+0] = 31
	bests(t, "the other way spared", p, list(job(0), job(1)))
	p.Jobs[1].Stop.Windows = spans(0, 0)
	bests(t, "that can't be", p, list(job(0)))
}

// TestBestBreaks: breaks are set in wherever there's room; where there's none, less is driven.
func TestBestBreaks(t *testing.T) {
	p := village(1, 2)
	p.Vehicles[0].End = 3
	pause := func(service int, ends ...int) {
		p.Vehicles[0].Breaks = []api.Break{{Windows: spans(ends...), Service: service}}
	}
	p.Jobs[0].Stop.Windows, p.Jobs[1].Stop.Windows = spans(10, 15), spans(20, 26)
	pause(5, 0, 0)
	bests(t, "at the start", p, list(job(0), job(1)))
	pause(6, 0, 0)
	bests(t, "at the start, for long", p, list(job(1)))
	pause(5, 10, 12)
	bests(t, "between", p, list(job(0), job(1)))
	pause(5, 15, 15)
	bests(t, "between, too long", p, list(job(0)))
	pause(100, 21, 26)
	bests(t, "behind", p, list(job(0), job(1)))
	p.Vehicles[0].Shift.To = 131
	bests(t, "behind, just in time", p, list(job(0), job(1)))
	p.Vehicles[0].Shift.To = 130
	bests(t, "behind, too late", p, nil)
	p.Vehicles[0].Shift.To = 1000000
	pause(0, 0, 5, 16, 19)
	bests(t, "at the start alone", p, list(job(0), job(1)))
	pause(10, 0, 5, 16, 19)
	scores(t, "at the start, for long", p, 1, 30)
	pause(0, 1000, 1000)
	bests(t, "long after all", p, list(job(0), job(1)))
	p.Vehicles[0].Shift.From = 1
	pause(0, 0, 0)
	bests(t, "a break that can't be taken", p, nil)
}

// TestBestTwoBreaks: the first break ahead of the second, each at its time.
func TestBestTwoBreaks(t *testing.T) {
	p := village(1, 2)
	p.Vehicles[0].End = 3
	p.Jobs[0].Stop.Windows, p.Jobs[1].Stop.Windows = spans(10, 15), spans(20, 32)
	first, second := api.Break{Windows: spans(0, 12), Service: 5}, api.Break{Windows: spans(10, 28), Service: 5}
	p.Vehicles[0].Breaks = []api.Break{first, second}
	bests(t, "in their order", p, list(job(0), job(1)))
	p.Vehicles[0].Breaks = []api.Break{second, first}
	bests(t, "in the wrong order", p, nil)
	first.Service, second.Windows = 0, spans(0, 12)
	p.Vehicles[0].Breaks = []api.Break{first, second}
	bests(t, "both at one place", p, list(job(0), job(1)))
	second.Windows = spans(0, 15)
	p.Vehicles[0].Breaks = []api.Break{second, second}
	bests(t, "one at each place", p, list(job(0), job(1)))
	second.Service = 6
	p.Vehicles[0].Breaks = []api.Break{second, second}
	bests(t, "too long", p, list(job(1)))
}

// TestBestMaxTasks: no more tasks than the vehicle takes: those that bring most.
func TestBestMaxTasks(t *testing.T) {
	p := village(1, 2, 3, 4)
	for i := range p.Jobs {
		p.Jobs[i].Priority = i * i
	}
	for n, want := range []int{0, 9, 13, 14, 14, 14} {
		p.Vehicles[0].MaxTasks = n
		cost := 80
		if n == 0 {
			cost = 0
		}
		scores(t, "so many tasks", p, want, cost)
	}
}
