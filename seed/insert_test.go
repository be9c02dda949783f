package seed

import (
	"fmt"
	"math/rand"
	"testing"

	"haulier/api"
)

// costs: does Cost answer this?
func costs(t *testing.T, what string, p api.Problem, vehicle int, visits []api.Visit, want int, e api.Errno) {
	t.Helper()
	lawful(t, p)
	if got, is := Cost(p, vehicle, visits); got != want || is != e {
		t.Errorf("P15.2: %s: Cost(%d, %v): %d, %d, want %d, %d", what, vehicle, visits, got, is, want, e)
	}
}

func TestCost(t *testing.T) {
	p := town()
	costs(t, "a job", p, 0, list(job(0)), 1000+3*16+2*163, api.OK)
	costs(t, "the other vehicle", p, 1, list(job(0)), 10, api.OK)
	costs(t, "a shipment", p, 1, list(pickup(0), delivery(0)), 10+30*10+4*96, api.OK)
	costs(t, "both", p, 0, list(pickup(0), job(0), delivery(0)), 1000+3*25+2*247, api.OK)
}

// TestCostOfNothing: a vehicle without visits costs nothing, whatever it would cost to drive it, and whether it could, or is there.
func TestCostOfNothing(t *testing.T) {
	p := town()
	for _, vehicle := range append(beyond(2), 0, 1) {
		costs(t, "nothing", p, vehicle, nil, 0, api.OK)
		costs(t, "nothing", p, vehicle, list(), 0, api.OK)
	}
	p.Vehicles[0].Shift = api.Window{}
	costs(t, "no time", p, 0, nil, 0, api.OK)
	costs(t, "no time", p, 0, list(job(0)), 0, api.ErrTime)
	p = town()
	p.Time.Cells[3], p.Dist.Cells[3] = -1, -1
	costs(t, "no way", p, 0, nil, 0, api.OK)
	p.Vehicles[0].Breaks[0].Windows = spans(0, 0)
	costs(t, "a break too late", p, 0, nil, 0, api.OK)
	p.Vehicles = nil
	costs(t, "no vehicles", p, 0, nil, 0, api.OK)
}

// TestCostErrors: each error of Fit, and nothing beside it.
func TestCostErrors(t *testing.T) {
	p := town()
	for _, vehicle := range beyond(2) {
		costs(t, "no vehicle", p, vehicle, list(job(0)), 0, api.ErrVehicle)
	}
	for _, i := range beyond(3) {
		costs(t, "no job", p, 0, list(job(i)), 0, api.ErrVisit)
		costs(t, "no shipment", p, 0, list(pickup(i), delivery(i)), 0, api.ErrVisit)
	}
	costs(t, "twice", p, 0, list(job(0), job(0)), 0, api.ErrVisit)
	costs(t, "a pickup alone", p, 0, list(pickup(0)), 0, api.ErrVisit)
	costs(t, "the wrong way round", p, 0, list(delivery(0), pickup(0)), 0, api.ErrVisit)
	costs(t, "a break", p, 0, list(job(0), pause(0), pause(1)), 0, api.ErrBreak)
	costs(t, "a break alone", p, 1, list(pause(0)), 0, api.ErrBreak)
	costs(t, "a skill", p, 1, list(job(1)), 0, api.ErrSkill)
	costs(t, "tasks", p, 1, list(job(0), job(2), pickup(0), delivery(0), pickup(1), delivery(1)), 0, api.ErrTasks)
	costs(t, "a load", p, 1, list(pickup(0), pickup(1), delivery(1), delivery(0)), 0, api.ErrLoad)
	p.Dist.Cells[7] = -1
	costs(t, "a way", p, 1, list(job(2)), 0, api.ErrTravel)
	p = town()
	p.Jobs[0].Stop.Windows = spans(0, 19)
	costs(t, "time", p, 0, list(job(0)), 0, api.ErrTime)
}

// TestCostGreat: the greatest figures that may be.
func TestCostGreat(t *testing.T) {
	p := api.Problem{Time: square(2, 0, 0, 0, 0), Dist: square(2, 0, 32000000, 32000000, 0)}
	p.Vehicles = []api.Vehicle{{Shift: api.Window{To: 1000000}, Fixed: 1000000, PerTime: 1000000, PerDist: 1000000, MaxTasks: 12}}
	var l []api.Visit
	for i := range 12 {
		p.Shipments = append(p.Shipments, api.Shipment{Pickup: stop(1), Delivery: stop(0)})
		l = append(l, pickup(i), delivery(i))
	}
	costs(t, "great", p, 0, l, 1000000+24*32000000*1000000, api.OK)
	s, growth, there := Insert(p, routes(route(0, l[:22]...)), shipTask(11))
	// Its pickup beside another one, its delivery beside another one: not a step more.
	if want := routes(route(0, append(list(pickup(11)), append(list(pickup(0), delivery(11)), l[1:22]...)...)...)); !there || growth != 0 || !same(s, want) {
		t.Errorf("P15.2: %v, %d, %v", s, growth, there)
	}
}

// TestCostDrawn: what Fit tells, of drawn routes.
func TestCostDrawn(t *testing.T) {
	r := rand.New(rand.NewSource(151))
	right := 0
	for range 5000 {
		p := drawnProblem(r)
		for _, x := range drawnSolution(r, p).Routes {
			want, e := costOf(p, x.Vehicle, x.Visits)
			costs(t, "drawn", p, x.Vehicle, x.Visits, want, e)
			if e == api.OK && want > 0 {
				right++
			}
		}
	}
	if right < 2000 {
		t.Errorf("only %d of the drawn routes are right", right)
	}
}

// inserts: does Insert answer this?
func inserts(t *testing.T, what string, p api.Problem, s api.Solution, task api.Task, want api.Solution, growth int) {
	t.Helper()
	lawful(t, p)
	if got, by, there := Insert(p, s, task); !there || by != growth || !same(got, want) {
		t.Errorf("P15.2: %s: Insert(%v, %v):\n%v, %d, %v, want\n%v, %d", what, s, task, got, by, there, want, growth)
	}
}

// refuses: does Insert answer that it fits nowhere?
func refuses(t *testing.T, what string, p api.Problem, s api.Solution, task api.Task) {
	t.Helper()
	lawful(t, p)
	if got, by, there := Insert(p, s, task); there || by != 0 || got.Routes != nil {
		t.Errorf("P15.2: %s: Insert(%v, %v): %v, %d, %v", what, s, task, got, by, there)
	}
}

// cars: vehicles of these homes.
func cars(homes ...int) []api.Vehicle {
	var l []api.Vehicle
	for _, home := range homes {
		l = append(l, car(home))
	}
	return l
}

// TestInsertWay: one vehicle: the way that costs least more, of equal ones the first.
func TestInsertWay(t *testing.T) {
	none := api.Solution{}
	p := village(cars(0), 1, 2, 3, 4)
	inserts(t, "the first one", p, none, jobTask(1), routes(route(0, job(1))), 40)
	inserts(t, "on the way there", p, routes(route(0, job(3))), jobTask(0), routes(route(0, job(0), job(3))), 0)
	inserts(t, "behind", p, routes(route(0, job(0))), jobTask(3), routes(route(0, job(3), job(0))), 60)
	inserts(t, "between", p, routes(route(0, job(0), job(2))), jobTask(1), routes(route(0, job(0), job(1), job(2))), 0)
	p.Vehicles[0].End = 8
	inserts(t, "ahead", p, routes(route(0, job(1), job(2))), jobTask(0), routes(route(0, job(0), job(1), job(2))), 0)
	inserts(t, "between, one way", p, routes(route(0, job(0), job(2))), jobTask(1), routes(route(0, job(0), job(1), job(2))), 0)
	inserts(t, "last, one way", p, routes(route(0, job(0), job(1))), jobTask(3), routes(route(0, job(0), job(1), job(3))), 0)
	// At the same place: ahead of the other one, and behind it, it costs the same.
	p = village(cars(0), 3, 3, 3)
	inserts(t, "equal ones", p, routes(route(0, job(0))), jobTask(1), routes(route(0, job(1), job(0))), 0)
	inserts(t, "equal ones", p, routes(route(0, job(0), job(1))), jobTask(2), routes(route(0, job(2), job(0), job(1))), 0)
}

// TestInsertShipment: pickup and delivery are each put where they cost least more, the pickup first.
func TestInsertShipment(t *testing.T) {
	p := village(cars(0), 2, 6)
	p.Vehicles[0].End = 8
	put := func(from, to int) { p.Shipments = []api.Shipment{{Pickup: stop(from), Delivery: stop(to)}} }
	put(1, 7)
	inserts(t, "of nothing", p, api.Solution{}, shipTask(0), routes(route(0, pickup(0), delivery(0))), 80)
	inserts(t, "around", p, routes(route(0, job(0), job(1))), shipTask(0), routes(route(0, pickup(0), job(0), job(1), delivery(0))), 0)
	put(3, 5)
	inserts(t, "between", p, routes(route(0, job(0), job(1))), shipTask(0), routes(route(0, job(0), pickup(0), delivery(0), job(1))), 0)
	put(1, 3)
	inserts(t, "ahead", p, routes(route(0, job(0), job(1))), shipTask(0), routes(route(0, pickup(0), job(0), delivery(0), job(1))), 0)
	put(3, 8)
	inserts(t, "behind", p, routes(route(0, job(0), job(1))), shipTask(0), routes(route(0, job(0), pickup(0), job(1), delivery(0))), 0)
	put(7, 8)
	inserts(t, "last", p, routes(route(0, job(0), job(1))), shipTask(0), routes(route(0, job(0), job(1), pickup(0), delivery(0))), 0)
	// Back from 5 to 4: as dear behind the first job as behind the last.
	put(5, 4)
	inserts(t, "back", p, routes(route(0, job(0), job(1))), shipTask(0), routes(route(0, job(0), pickup(0), delivery(0), job(1))), 20)
	// All at one place: the first of all ways.
	put(2, 2)
	inserts(t, "equal ones", p, routes(route(0, job(0))), shipTask(0), routes(route(0, pickup(0), delivery(0), job(0))), 0)
}

// TestInsertVehicle: the vehicle whose cost grows least, of equal ones the first; those of others aren't touched.
func TestInsertVehicle(t *testing.T) {
	none := api.Solution{}
	p := village(cars(0, 8, 4), 1, 7, 4, 6)
	inserts(t, "near the first", p, none, jobTask(0), routes(route(0, job(0))), 20)
	inserts(t, "near the second", p, none, jobTask(1), routes(route(1, job(1))), 20)
	inserts(t, "near the third", p, none, jobTask(2), routes(route(2, job(2))), 0)
	inserts(t, "as near to two", p, none, jobTask(3), routes(route(1, job(3))), 40)
	inserts(t, "as near to two", p, routes(route(2, job(2))), jobTask(3), routes(route(1, job(3)), route(2, job(2))), 40)
	inserts(t, "near by way of another", p, routes(route(2, job(1))), jobTask(3), routes(route(2, job(3), job(1))), 0)
	// A vehicle's first visit brings in what it costs at all.
	for i := range p.Vehicles {
		p.Vehicles[i].Fixed = 100
	}
	inserts(t, "fixed", p, none, jobTask(1), routes(route(1, job(1))), 120)
	inserts(t, "fixed, and as far", p, routes(route(0, job(0))), jobTask(1), routes(route(0, job(1), job(0))), 120)
	p.Vehicles[1].Fixed = 99
	inserts(t, "fixed a little less", p, routes(route(0, job(0))), jobTask(1), routes(route(0, job(0)), route(1, job(1))), 119)
	inserts(t, "fixed once", p, routes(route(1, job(1))), jobTask(3), routes(route(1, job(3), job(1))), 20)
	inserts(t, "dearer than another", p, routes(route(2, job(3))), jobTask(1), routes(route(2, job(1), job(3))), 20)
	// The same everywhere: the first vehicle.
	p = village(cars(3, 3, 3, 3), 5, 6)
	inserts(t, "equal ones", p, none, jobTask(0), routes(route(0, job(0))), 40)
	inserts(t, "equal ones but the first", p, routes(route(0, job(0))), jobTask(1), routes(route(0, job(1), job(0))), 20)
	p.Vehicles[0].MaxTasks = 0
	inserts(t, "the first can't", p, none, jobTask(0), routes(route(1, job(0))), 40)
	p.Vehicles[2].PerTime = 0
	inserts(t, "one for nothing", p, none, jobTask(0), routes(route(2, job(0))), 0)
	p.Vehicles[3].PerTime = 0
	inserts(t, "two for nothing", p, none, jobTask(0), routes(route(2, job(0))), 0)
}

// TestInsertByGrowth: what counts is by how much the cost grows, not what it is then.
func TestInsertByGrowth(t *testing.T) {
	p := village(cars(0, 0), 8, 1, 7)
	// Vehicle 0 costs 160 and passes by, vehicle 1 costs nothing, and would cost 140.
	inserts(t, "a dear one passes by", p, routes(route(0, job(0))), jobTask(2), routes(route(0, job(2), job(0))), 0)
	// Vehicle 1 costs 20, and would cost 140.
	inserts(t, "a dear one passes by", p, routes(route(0, job(0)), route(1, job(1))), jobTask(2), routes(route(0, job(2), job(0)), route(1, job(1))), 0)
	p.Vehicles[0].Fixed = 1000000
	inserts(t, "a dear one that drives", p, routes(route(0, job(1))), jobTask(2), routes(route(0, job(2), job(1))), 120)
	inserts(t, "a dear one that doesn't", p, api.Solution{}, jobTask(2), routes(route(1, job(2))), 140)
}

// detour: three places; the straight way from 0 to 1 is dearer than that by way of 2.
func detour() api.Problem {
	m := square(3, 0, 50, 10, 50, 0, 10, 10, 10, 0)
	p := api.Problem{Time: m, Dist: m, Vehicles: cars(0, 2)}
	for _, place := range []int{1, 2, 2} {
		p.Jobs = append(p.Jobs, api.Job{Stop: stop(place)})
	}
	return p
}

// TestInsertCheaper: by a detour the cost may grow by less than nothing.
func TestInsertCheaper(t *testing.T) {
	p := detour()
	inserts(t, "a detour", p, routes(route(0, job(0))), jobTask(1), routes(route(0, job(1), job(0))), -30)
	inserts(t, "another detour", p, routes(route(0, job(1), job(0))), jobTask(2), routes(route(0, job(1), job(0), job(2))), -30)
	// Vehicle 1 would take it for nothing: that is more than less than nothing.
	inserts(t, "none of the first", p, api.Solution{}, jobTask(1), routes(route(1, job(1))), 0)
	p.Vehicles[0], p.Vehicles[1] = p.Vehicles[1], p.Vehicles[0]
	inserts(t, "a detour of the second", p, routes(route(1, job(0))), jobTask(1), routes(route(1, job(1), job(0))), -30)
	// Two that gain: the one that gains more, though it is the second.
	p.Vehicles = append(cars(0, 0), car(2))
	p.Vehicles[1].PerTime = 2
	p.Jobs = append(p.Jobs, p.Jobs[0])
	inserts(t, "the greater gain", p, routes(route(0, job(0)), route(1, job(3))), jobTask(1), routes(route(0, job(0)), route(1, job(1), job(3))), -60)
}

// TestInsertKeeps: each thing that may be wrong with a way keeps it from being taken, and a dearer one is.
func TestInsertKeeps(t *testing.T) {
	p := village(cars(0), 2, 1)
	p.Jobs[0].Stop.Windows = spans(0, 20)
	p.Jobs[1].Stop.Service = 1
	s := routes(route(0, job(0)))
	// Ahead, the first way, it would make the other one late; behind it costs the same.
	inserts(t, "windows", p, s, jobTask(1), routes(route(0, job(0), job(1))), 0)
	p.Jobs[1].Stop.Windows = spans(0, 29)
	refuses(t, "no time at all", p, s, jobTask(1))
	p = village(cars(0), 2, 1)
	p.Jobs[0].Stop.Windows, p.Jobs[1].Stop.Windows = spans(60, 70), spans(0, 10)
	p.Vehicles[0].Shift.To = 80
	inserts(t, "the shift's end", p, s, jobTask(1), routes(route(0, job(1), job(0))), 0)
	// Another vehicle, where it costs more, is in time.
	p = village(cars(0, 8), 1, 2)
	p.Jobs[0].Stop.Windows, p.Jobs[1].Stop.Windows = spans(100, 110), spans(0, 60)
	inserts(t, "just in time", p, routes(route(1, job(0))), jobTask(1), routes(route(1, job(1), job(0))), 0)
	p.Jobs[1].Stop.Windows = spans(0, 59)
	inserts(t, "time elsewhere", p, routes(route(1, job(0))), jobTask(1), routes(route(0, job(1)), route(1, job(0))), 40)
	p.Vehicles[0].Shift.To = 39
	refuses(t, "time nowhere", p, routes(route(1, job(0))), jobTask(1))
	// What is aboard: the shipments can't be both.
	p = village(cars(0))
	p.Dims, p.Vehicles[0].Cap, p.Vehicles[0].End = 1, []int{3}, 8
	for _, ends := range [][2]int{{1, 5}, {2, 6}} {
		p.Shipments = append(p.Shipments, api.Shipment{Pickup: stop(ends[0]), Delivery: stop(ends[1]), Amount: []int{2}})
	}
	s = routes(route(0, pickup(0), delivery(0)))
	inserts(t, "loads", p, s, shipTask(1), routes(route(0, pickup(0), delivery(0), pickup(1), delivery(1))), 60)
	p.Shipments[0].Amount = []int{1}
	inserts(t, "no load is short", p, s, shipTask(1), routes(route(0, pickup(0), pickup(1), delivery(0), delivery(1))), 0)
}

// TestInsertBreaks: a vehicle's breaks are set in, and take time.
func TestInsertBreaks(t *testing.T) {
	p := village(cars(0, 0), 2, 1)
	p.Jobs[0].Stop.Windows = spans(20, 35)
	p.Jobs[1].Stop = api.Stop{Place: 1, Service: 10, Windows: spans(0, 45)}
	p.Vehicles[1].Fixed = 7
	s := routes(route(0, job(0)))
	inserts(t, "no break", p, s, jobTask(1), routes(route(0, job(1), job(0))), 0)
	p.Vehicles[0].Breaks = []api.Break{{Windows: spans(0, 100), Service: 15}}
	inserts(t, "a break behind both", p, s, jobTask(1), routes(route(0, job(1), job(0))), 0)
	// It must be taken early: with both ahead of the first job that is too late.
	p.Vehicles[0].Breaks[0].Windows = spans(0, 20)
	inserts(t, "a break ahead of both", p, s, jobTask(1), routes(route(0, job(0), job(1))), 0)
	p.Jobs[1].Stop.Windows = spans(0, 44)
	inserts(t, "no time beside the break", p, s, jobTask(1), routes(route(0, job(0)), route(1, job(1))), 27)
	p.Vehicles = p.Vehicles[:1]
	refuses(t, "no time beside the break", p, s, jobTask(1))
}

// TestInsertRefuses: nothing at all, if it fits nowhere.
func TestInsertRefuses(t *testing.T) {
	none := api.Solution{}
	refuses(t, "no vehicle", village(nil, 1), none, jobTask(0))
	p := village(cars(0, 0), 1, 2)
	for _, i := range beyond(2) {
		refuses(t, "no such job", p, none, jobTask(i))
		refuses(t, "no such job", p, routes(route(0, job(0))), jobTask(i))
	}
	for _, i := range append(beyond(0), 0) {
		refuses(t, "no such shipment", p, none, shipTask(i))
	}
	p.Vehicles[0].MaxTasks, p.Vehicles[1].MaxTasks = 1, 0
	refuses(t, "tasks", p, routes(route(0, job(0))), jobTask(1))
	inserts(t, "tasks", p, none, jobTask(1), routes(route(0, job(1))), 40)
	p = village(cars(0, 0), 1)
	p.Jobs[0].Skills = 2
	refuses(t, "skills", p, none, jobTask(0))
	p.Vehicles[1].Skills = 3
	inserts(t, "skills", p, none, jobTask(0), routes(route(1, job(0))), 20)
	p.Time.Cells[1] = -1
	refuses(t, "no way", p, none, jobTask(0))
	p = village(cars(0), 8)
	p.Vehicles[0].Shift.To = 159
	refuses(t, "shift", p, none, jobTask(0))
	p.Vehicles[0].Shift.To = 160
	inserts(t, "shift", p, none, jobTask(0), routes(route(0, job(0))), 160)
}

// TestInsertOfOthers: vehicles whose visits are wrong in the solution get nothing, and keep what they have; the others do.
func TestInsertOfOthers(t *testing.T) {
	p := village(cars(0, 0), 1, 2, 3)
	for _, wrong := range [][]api.Visit{
		list(job(0), job(0)), list(job(9)), list(pause(0)), list(pickup(0), delivery(0)), list(api.Visit{}),
	} {
		s := routes(route(0, wrong...))
		inserts(t, "a wrong vehicle", p, s, jobTask(1), routes(route(0, wrong...), route(1, job(1))), 40)
		s = routes(route(0, job(2)), route(1, wrong...))
		inserts(t, "a wrong vehicle", p, s, jobTask(1), routes(route(0, job(1), job(2)), route(1, wrong...)), 0)
		refuses(t, "wrong vehicles", p, routes(route(0, wrong...), route(1, wrong...)), jobTask(1))
	}
	// A pickup, or a delivery, that stands alone isn't made whole.
	p.Shipments = []api.Shipment{{Pickup: stop(1), Delivery: stop(2)}}
	refuses(t, "a pickup alone", p, routes(route(0, pickup(0)), route(1, delivery(0))), shipTask(0))
	// One that can't drive at all, as it is.
	p.Vehicles[0].Shift.To = 59
	inserts(t, "too late", p, routes(route(0, job(2))), jobTask(0), routes(route(0, job(2)), route(1, job(0))), 20)
}

// TestInsertMends: a vehicle whose visits are wrong gets nothing, though they would be right with the task: by way of it, where the straight way is too long, or there is none.
func TestInsertMends(t *testing.T) {
	p := detour()
	p.Vehicles[0].Shift.To = 70
	s := routes(route(0, job(0)))
	costs(t, "too long", p, 0, list(job(0)), 0, api.ErrTime)
	costs(t, "by way of another", p, 0, list(job(1), job(0), job(2)), 40, api.OK)
	inserts(t, "just in time", p, routes(route(0, job(0), job(2))), jobTask(1), routes(route(0, job(1), job(0), job(2))), -30)
	p.Vehicles[0].Shift.To = 69
	inserts(t, "too long", p, routes(route(0, job(0), job(2))), jobTask(1), routes(route(0, job(0), job(2)), route(1, job(1))), 0)
	inserts(t, "too long", p, s, jobTask(1), routes(route(0, job(0)), route(1, job(1))), 0)
	p = detour()
	p.Dist.Cells[1] = -1
	costs(t, "no way", p, 0, list(job(0)), 0, api.ErrTravel)
	costs(t, "by way of another", p, 0, list(job(1), job(0)), 70, api.OK)
	inserts(t, "no way", p, s, jobTask(1), routes(route(0, job(0)), route(1, job(1))), 0)
	p.Vehicles = p.Vehicles[:1]
	refuses(t, "no way", p, s, jobTask(1))
}

// TestInsertStrange: of a solution that isn't right: the first route of a vehicle counts, all of it are replaced; routes come by rising vehicles; what no vehicle has is kept; what one has, another one may get.
func TestInsertStrange(t *testing.T) {
	p := village(cars(0, 0), 1, 2, 3)
	inserts(t, "two routes", p, routes(route(0, job(2)), route(0, job(0))), jobTask(1), routes(route(0, job(1), job(2))), 0)
	inserts(t, "an empty one first", p, routes(route(0), route(0, job(2))), jobTask(1), routes(route(0, job(1))), 40)
	inserts(t, "an empty one second", p, routes(route(0, job(2)), route(0)), jobTask(1), routes(route(0, job(1), job(2))), 0)
	inserts(t, "falling", p, routes(route(1, job(2)), route(0, job(0))), jobTask(1), routes(route(0, job(0)), route(1, job(1), job(2))), 0)
	inserts(t, "of no vehicle", p, routes(route(7, job(2)), route(-1, job(2))), jobTask(1), routes(route(-1, job(2)), route(0, job(1)), route(7, job(2))), 40)
	inserts(t, "there already", p, routes(route(0, job(1))), jobTask(1), routes(route(0, job(1)), route(1, job(1))), 40)
	refuses(t, "there already, everywhere", p, routes(route(0, job(1)), route(1, job(1))), jobTask(1))
	p.Vehicles = p.Vehicles[:1]
	refuses(t, "there already", p, routes(route(0, job(1))), jobTask(1))
}

// TestInsertFull: vehicles with all visits that there may be, and with all but one task's.
func TestInsertFull(t *testing.T) {
	p := village(cars(0))
	var l []api.Visit
	for i := range 12 {
		p.Shipments = append(p.Shipments, api.Shipment{Pickup: stop(i % 9), Delivery: stop(8 - i%9)})
		l = append(l, pickup(i), delivery(i))
	}
	for i := range 12 {
		refuses(t, "full", p, routes(route(0, l...)), shipTask(i))
		rest := append(append(list(), l[:2*i]...), l[2*i+2:]...)
		want, growth, _ := inserted(p, routes(route(0, rest...)), shipTask(i))
		inserts(t, "all but one", p, routes(route(0, rest...)), shipTask(i), want, growth)
	}
}

// TestInsertDrawn: drawn problems, solutions and tasks, held against all options.
func TestInsertDrawn(t *testing.T) {
	r := rand.New(rand.NewSource(152))
	put, refused, less, tied := 0, 0, 0, 0
	for range 12000 {
		p := drawnProblem(r)
		s, task := drawnSolution(r, p), drawnTask(r, p)
		want, growth, is := inserted(p, s, task)
		got, by, there := Insert(p, s, task)
		if there != is || by != growth || !same(got, want) {
			t.Fatalf("P15.2: %+v: Insert(%v, %v):\n%v, %d, %v, want\n%v, %d, %v", p, s, task, got, by, there, want, growth, is)
		}
		if !there {
			refused++
			continue
		}
		put++
		if growth < 0 {
			less++
		}
		seen := map[string]bool{}
		for _, o := range options(p, s, task) {
			if o.growth == growth {
				seen[fmt.Sprint(o.vehicle, o.way)] = true
			}
		}
		if len(seen) > 1 {
			tied++
		}
	}
	if put < 3000 || refused < 1000 || less < 100 || tied < 500 {
		t.Errorf("too few of a kind are drawn: %d put, %d refused, %d with less cost, %d with equal ones", put, refused, less, tied)
	}
}
