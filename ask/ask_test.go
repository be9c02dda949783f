package ask_test

import (
	"slices"
	"testing"

	"haulier/api"
	"haulier/ask"
	"haulier/model"
)

// TestChapter: the chapter's own examples.
func TestChapter(t *testing.T) {
	one := api.Matrix{N: 1, Cells: []int{0}}
	asks(t, plain(1), api.Problem{Time: one, Dist: one})
	faulty(t, obj{}, api.ErrMissing, "graph")
	faulty(t, obj{{"x", 1}}, api.ErrField, "x")
	faulty(t, obj{{"dims", 4}}, api.ErrRange, "dims")
	matrix := pair{"matrix", obj{{"time", list{list{0}}}, {"dist", list{list{1}}}}}
	faulty(t, obj{matrix}, api.ErrRange, "matrix", "dist", 0, 0)
	matrix.value = obj{{"time", list{list{0}}}, {"dist", list{list{0}}}}
	faulty(t, obj{matrix, {"vehicles", list{obj{{"start", 0}}}}}, api.ErrMissing, "vehicles", 0, "end")
	faulty(t, list{1}, api.ErrType)
}

// TestNoValue: a tree without values has no whole.
func TestNoValue(t *testing.T) {
	for _, v := range []api.Tree{nil, {}, make(api.Tree, 0, 5)} {
		if p, f := ask.Problem(v); f != (api.Fault{Code: api.ErrTree}) || !alike(p, api.Problem{}) {
			t.Errorf("P21.1: no value: %+v, %+v", p, f)
		}
	}
}

// TestEachField: requests in which all fields stand, and none that need not.
func TestEachField(t *testing.T) {
	asks(t, town(), townProblem())
	asks(t, lake(), lakeProblem())
}

// TestOwnNumbers: what is taken where a field lacks, one by one.
func TestOwnNumbers(t *testing.T) {
	without := func(change func(p *api.Problem), path ...any) {
		t.Helper()
		want := townProblem()
		change(&want)
		asks(t, put(town(), gone{}, path...), want)
	}
	without(func(p *api.Problem) { p.Jobs = nil }, "jobs")
	without(func(p *api.Problem) { p.Shipments = nil }, "shipments")
	without(func(p *api.Problem) { p.Vehicles[0].Cap = []int{0, 0} }, "vehicles", 0, "capacity")
	without(func(p *api.Problem) { p.Vehicles[0].Skills = 0 }, "vehicles", 0, "skills")
	without(func(p *api.Problem) { p.Vehicles[0].Shift = api.Window{From: 0, To: 1000000} }, "vehicles", 0, "shift")
	without(func(p *api.Problem) { p.Vehicles[0].Fixed = 0 }, "vehicles", 0, "fixed")
	without(func(p *api.Problem) { p.Vehicles[0].PerTime = 1 }, "vehicles", 0, "per_time")
	without(func(p *api.Problem) { p.Vehicles[0].PerDist = 0 }, "vehicles", 0, "per_dist")
	without(func(p *api.Problem) { p.Vehicles[0].MaxTasks = 12 }, "vehicles", 0, "max_tasks")
	without(func(p *api.Problem) { p.Vehicles[0].Breaks = nil }, "vehicles", 0, "breaks")
	without(func(p *api.Problem) { p.Vehicles[0].Breaks[0].Windows = always() }, "vehicles", 0, "breaks", 0, "windows")
	without(func(p *api.Problem) { p.Vehicles[0].Breaks[1].Service = 0 }, "vehicles", 0, "breaks", 1, "service")
	without(func(p *api.Problem) { p.Jobs[0].Stop.Service = 0 }, "jobs", 0, "service")
	without(func(p *api.Problem) { p.Jobs[0].Stop.Windows = always() }, "jobs", 0, "windows")
	without(func(p *api.Problem) { p.Jobs[0].Drop = []int{0, 0} }, "jobs", 0, "drop")
	without(func(p *api.Problem) { p.Jobs[0].Pick = []int{0, 0} }, "jobs", 0, "pick")
	without(func(p *api.Problem) { p.Jobs[0].Skills = 0 }, "jobs", 0, "skills")
	without(func(p *api.Problem) { p.Jobs[1].Priority = 1 }, "jobs", 1, "priority")
	without(func(p *api.Problem) { p.Shipments[0].Pickup.Service = 0 }, "shipments", 0, "pickup", "service")
	without(func(p *api.Problem) { p.Shipments[0].Pickup.Windows = always() }, "shipments", 0, "pickup", "windows")
	without(func(p *api.Problem) { p.Shipments[0].Delivery.Service = 0 }, "shipments", 0, "delivery", "service")
	without(func(p *api.Problem) { p.Shipments[0].Delivery.Windows = always() }, "shipments", 0, "delivery", "windows")
	without(func(p *api.Problem) { p.Shipments[0].Amount = []int{0, 0} }, "shipments", 0, "amount")
	without(func(p *api.Problem) { p.Shipments[0].Skills = 0 }, "shipments", 0, "skills")
	without(func(p *api.Problem) { p.Shipments[0].Priority = 1 }, "shipments", 0, "priority")
	want := lakeProblem()
	asks(t, put(lake(), 0, "dims"), want)
}

// TestOwnAmounts: amounts that lack are as many 0s as there are dimensions.
func TestOwnAmounts(t *testing.T) {
	for dims := range 4 {
		want := lakeProblem()
		want.Dims = dims
		none := make([]int, dims)
		want.Vehicles[0].Cap, want.Jobs[0].Drop, want.Jobs[0].Pick, want.Shipments[0].Amount = none, none, none, none
		asks(t, put(lake(), dims, "dims"), want)
	}
}

// TestNeeded: each field that must be there.
func TestNeeded(t *testing.T) {
	for _, path := range [][]any{
		{"vehicles"}, {"vehicles", 0, "start"}, {"vehicles", 0, "end"}, {"vehicles", 1, "start"}, {"vehicles", 1, "end"},
		{"matrix", "time"}, {"matrix", "dist"}, {"jobs", 0, "place"}, {"jobs", 1, "place"},
		{"shipments", 0, "pickup"}, {"shipments", 0, "delivery"}, {"shipments", 0, "pickup", "place"}, {"shipments", 0, "delivery", "place"},
	} {
		faulty(t, put(town(), gone{}, path...), api.ErrMissing, path...)
	}
	faulty(t, put(lake(), gone{}, "graph", "places"), api.ErrMissing, "graph", "places")
	faulty(t, put(lake(), gone{}, "graph", "arcs"), api.ErrMissing, "graph", "arcs")
	// Without roads of either kind it is the graph that lacks.
	faulty(t, put(town(), gone{}, "matrix"), api.ErrMissing, "graph")
	faulty(t, put(lake(), gone{}, "graph"), api.ErrMissing, "graph")
}

// TestAnyOrder: the order of an object's fields says nothing.
func TestAnyOrder(t *testing.T) {
	asks(t, turned(town()), townProblem())
	asks(t, turned(lake()), lakeProblem())
}

// TestLeastWeights: with a graph the times and distances are those of the shortest ways, each by its own metric; where there is no way -1.
func TestLeastWeights(t *testing.T) {
	request := plain(4)
	request = put(request, list{numbers(0, 1, 10, 1), numbers(0, 2, 1, 10), numbers(2, 1, 1, 10), numbers(1, 2, 2, 2), numbers(1, 2, 3, 1), numbers(2, 2, 0, 0)}, "graph", "arcs").(obj)
	p := lawful(t, request)
	times := []int{0, 2, 1, -1, -1, 0, 2, -1, -1, 1, 0, -1, -1, -1, -1, 0}
	dists := []int{0, 1, 2, -1, -1, 0, 1, -1, -1, 10, 0, -1, -1, -1, -1, 0}
	if p.Time.N != 4 || p.Dist.N != 4 || !slices.Equal(p.Time.Cells, times) || !slices.Equal(p.Dist.Cells, dists) {
		t.Errorf("P7: %+v, %+v", p.Time, p.Dist)
	}
}

// TestLongestWay: through all 32 places by the greatest numbers: a matrix of a graph may hold more than MaxNumber.
func TestLongestWay(t *testing.T) {
	arcs := list{}
	for i := range 31 {
		arcs = append(arcs, numbers(i, i+1, 1000000, 1000000))
	}
	p := lawful(t, put(plain(32), arcs, "graph", "arcs"))
	if p.Time.N != 32 || p.Time.Cells[31] != 31000000 || p.Dist.Cells[31] != 31000000 || p.Time.Cells[32] != -1 {
		t.Errorf("P7: the longest way: %+v", p.Time)
	}
}

// TestGreatest: as much of everything as may be.
func TestGreatest(t *testing.T) {
	rows := list{}
	for i := range 32 {
		row := slices.Repeat(list{1000000}, 32)
		row[i] = 0
		rows = append(rows, row)
	}
	all := list{}
	for i := range 62 {
		all = append(all, 61-i)
	}
	most := list{1000000, 1000000, 1000000}
	open := pairs(0, 0, 1, 1, 2, 999999, 1000000, 1000000)
	pause := obj{{"windows", open}, {"service", 1000000}}
	car := obj{
		{"start", 31}, {"end", 31}, {"capacity", most}, {"skills", all}, {"shift", numbers(1000000, 1000000)},
		{"fixed", 1000000}, {"per_time", 1000000}, {"per_dist", 1000000}, {"max_tasks", 12}, {"breaks", list{pause, pause}},
	}
	half := obj{{"place", 31}, {"service", 1000000}, {"windows", open}}
	work := append(slices.Clone(half), obj{{"drop", most}, {"pick", most}, {"skills", all}, {"priority", 100}}...)
	ship := obj{{"pickup", half}, {"delivery", half}, {"amount", most}, {"skills", all}, {"priority", 100}}
	for jobs := range 13 {
		request := obj{
			{"dims", 3}, {"matrix", obj{{"time", rows}, {"dist", rows}}}, {"vehicles", slices.Repeat(list{car}, 4)},
			{"jobs", slices.Repeat(list{work}, jobs)}, {"shipments", slices.Repeat(list{ship}, 12-jobs)},
		}
		asks(t, request, made(request))
		faulty(t, put(request, slices.Repeat(list{ship}, 13-jobs), "shipments"), api.ErrMany, "shipments")
		if jobs == 12 {
			faulty(t, put(request, slices.Repeat(list{work}, 13), "jobs"), api.ErrMany, "jobs")
		}
	}
}

// TestManyArcs: as many arcs as may be, and one more.
func TestManyArcs(t *testing.T) {
	arcs := list{}
	for i := range 256 {
		arcs = append(arcs, numbers(i/16, i%16, 256-i, i+1))
	}
	request := put(plain(32), arcs, "graph", "arcs")
	asks(t, request, made(request))
	faulty(t, put(request, append(arcs, numbers(0, 0, 0, 0)), "graph", "arcs"), api.ErrMany, "graph", "arcs")
	faulty(t, put(request, append(arcs, nil), "graph", "arcs"), api.ErrMany, "graph", "arcs")
}

// TestEachNumberOfPlaces: of graphs and matrices, the greatest and one more among them.
func TestEachNumberOfPlaces(t *testing.T) {
	for n := 1; n <= 40; n++ {
		rows := list{}
		for i := range n {
			row := list{}
			for j := range n {
				row = append(row, abs(i-j))
			}
			rows = append(rows, row)
		}
		matrix := obj{{"matrix", obj{{"time", rows}, {"dist", rows}}}, {"vehicles", list{obj{{"start", n - 1}, {"end", 0}}}}}
		graph := put(plain(n), list{obj{{"start", n - 1}, {"end", 0}}}, "vehicles")
		if n > 32 {
			faulty(t, matrix, api.ErrMany, "matrix", "time")
			faulty(t, graph, api.ErrRange, "graph", "places")
			continue
		}
		asks(t, matrix, made(matrix))
		asks(t, graph, made(graph))
		if e := model.Check(lawful(t, matrix)); e != api.OK {
			t.Errorf("P12.1: %d places: %d", n, e)
		}
		faulty(t, put(matrix, n, "vehicles", 0, "start"), api.ErrPlace, "vehicles", 0, "start")
		faulty(t, put(graph, n, "vehicles", 0, "end"), api.ErrPlace, "vehicles", 0, "end")
	}
}

func abs(n int) int { return max(n, -n) }
