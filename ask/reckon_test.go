package ask_test

import (
	"math/rand"
	"slices"
	"testing"

	"haulier/api"
	"haulier/ask"
)

// What is wrong with a request, and what it asks for, by the document's words alone.

// rule: the first fault of a value that stands at a path.
type rule func(v any, path []any) api.Fault

func told(path []any, code api.Errno) api.Fault { return api.Fault{Code: code, Path: joined(path)} }

func under(path []any, step any) []any { return append(slices.Clone(path), step) }

// then: what all of these rules say, one behind the other.
func then(rules ...rule) rule {
	return func(v any, path []any) api.Fault {
		for _, r := range rules {
			if f := r(v, path); f.Code != 0 {
				return f
			}
		}
		return api.Fault{}
	}
}

func within(least, most int, outside api.Errno) rule {
	return func(v any, path []any) api.Fault {
		n, is := v.(int)
		if !is {
			return told(path, api.ErrType)
		}
		if n < least || n > most {
			return told(path, outside)
		}
		return api.Fault{}
	}
}

func numberRule(least, most int) rule { return within(least, most, api.ErrRange) }

func anyNumber() rule { return numberRule(0, 1000000) }

func values(kid func(i int) rule) rule {
	return func(v any, path []any) api.Fault {
		for i, x := range v.(list) {
			if f := kid(i)(x, under(path, i)); f.Code != 0 {
				return f
			}
		}
		return api.Fault{}
	}
}

// counted: a list of which this says how many there may be.
func counted(may func(n int) bool, code api.Errno) rule {
	return func(v any, path []any) api.Fault {
		l, is := v.(list)
		if !is {
			return told(path, api.ErrType)
		}
		if !may(len(l)) {
			return told(path, code)
		}
		return api.Fault{}
	}
}

func most(n int, kid rule) rule {
	return then(counted(func(has int) bool { return has <= n }, api.ErrMany), values(func(int) rule { return kid }))
}

func just(kids ...rule) rule {
	return then(counted(func(has int) bool { return has == len(kids) }, api.ErrSize), values(func(i int) rule { return kids[i] }))
}

// known: an object without other names.
func known(names ...string) rule {
	return func(v any, path []any) api.Fault {
		o, is := v.(obj)
		if !is {
			return told(path, api.ErrType)
		}
		for _, p := range o {
			if !slices.Contains(names, p.name) {
				return told(under(path, p.name), api.ErrField)
			}
		}
		return api.Fault{}
	}
}

func fieldRule(name string, must bool, r rule) rule {
	return func(v any, path []any) api.Fault {
		x, is := seek(v, name)
		if is {
			return r(x, under(path, name))
		}
		if must {
			return told(under(path, name), api.ErrMissing)
		}
		return api.Fault{}
	}
}

func needed(name string, r rule) rule  { return fieldRule(name, true, r) }
func perhaps(name string, r rule) rule { return fieldRule(name, false, r) }

func windowRule() rule {
	return then(just(anyNumber(), anyNumber()), func(v any, path []any) api.Fault {
		if v.(list)[0].(int) > v.(list)[1].(int) {
			return told(path, api.ErrRange)
		}
		return api.Fault{}
	})
}

func windowsRule() rule {
	return then(most(4, windowRule()), func(v any, path []any) api.Fault {
		l := v.(list)
		if len(l) == 0 {
			return told(path, api.ErrSize)
		}
		for i := 1; i < len(l); i++ {
			if l[i].(list)[0].(int) <= l[i-1].(list)[1].(int) {
				return told(under(path, i), api.ErrRange)
			}
		}
		return api.Fault{}
	})
}

func skillsRule() rule {
	return then(most(62, numberRule(0, 61)), func(v any, path []any) api.Fault {
		for i, x := range v.(list) {
			if slices.Contains(v.(list)[:i], x) {
				return told(under(path, i), api.ErrTwice)
			}
		}
		return api.Fault{}
	})
}

func amountsRule(dims int) rule { return just(slices.Repeat([]rule{anyNumber()}, dims)...) }

func stopRule(places int) rule {
	return then(needed("place", within(0, places-1, api.ErrPlace)), perhaps("service", anyNumber()), perhaps("windows", windowsRule()))
}

func vehicleRule(places, dims int) rule {
	pause := then(known("windows", "service"), perhaps("windows", windowsRule()), perhaps("service", anyNumber()))
	return then(
		known("start", "end", "capacity", "skills", "shift", "fixed", "per_time", "per_dist", "max_tasks", "breaks"),
		needed("start", within(0, places-1, api.ErrPlace)), needed("end", within(0, places-1, api.ErrPlace)),
		perhaps("capacity", amountsRule(dims)), perhaps("skills", skillsRule()), perhaps("shift", windowRule()),
		perhaps("fixed", anyNumber()), perhaps("per_time", anyNumber()), perhaps("per_dist", anyNumber()),
		perhaps("max_tasks", numberRule(0, 12)), perhaps("breaks", most(2, pause)),
	)
}

func jobRule(places, dims int) rule {
	return then(
		known("place", "service", "windows", "drop", "pick", "skills", "priority"), stopRule(places),
		perhaps("drop", amountsRule(dims)), perhaps("pick", amountsRule(dims)), perhaps("skills", skillsRule()), perhaps("priority", numberRule(0, 100)),
	)
}

func shipmentRule(places, dims int) rule {
	half := then(known("place", "service", "windows"), stopRule(places))
	return then(
		known("pickup", "delivery", "amount", "skills", "priority"), needed("pickup", half), needed("delivery", half),
		perhaps("amount", amountsRule(dims)), perhaps("skills", skillsRule()), perhaps("priority", numberRule(0, 100)),
	)
}

func graphRule(v any, path []any) api.Fault {
	f := then(known("places", "arcs"), needed("places", numberRule(1, 32)))(v, path)
	if f.Code != 0 {
		return f
	}
	places, _ := seek(v, "places")
	end := within(0, places.(int)-1, api.ErrPlace)
	return needed("arcs", most(256, just(end, end, anyNumber(), anyNumber())))(v, path)
}

func cellRule(itself bool) rule {
	return func(v any, path []any) api.Fault {
		if v != nil {
			if f := anyNumber()(v, path); f.Code != 0 {
				return f
			}
		}
		if itself && v != 0 {
			return told(path, api.ErrRange)
		}
		return api.Fault{}
	}
}

func rowsRule(n int) rule {
	return values(func(i int) rule {
		var row []rule
		for j := range n {
			row = append(row, cellRule(i == j))
		}
		return just(row...)
	})
}

func matrixRule(v any, path []any) api.Fault {
	few := counted(func(has int) bool { return has <= 32 }, api.ErrMany)
	some := counted(func(has int) bool { return has > 0 }, api.ErrSize)
	f := then(known("time", "dist"), needed("time", then(few, some)))(v, path)
	if f.Code != 0 {
		return f
	}
	time, _ := seek(v, "time")
	n := len(time.(list))
	same := counted(func(has int) bool { return has == n }, api.ErrSize)
	return then(needed("time", rowsRule(n)), needed("dist", then(few, same, rowsRule(n))))(v, path)
}

func roadsRule(v any, path []any) api.Fault {
	_, graph := seek(v, "graph")
	_, matrix := seek(v, "matrix")
	if graph && matrix {
		return told(under(path, "matrix"), api.ErrBoth)
	}
	if matrix {
		return needed("matrix", matrixRule)(v, path)
	}
	return needed("graph", graphRule)(v, path)
}

// sizesOf: how many places and dimensions a request has, the fields of which are right.
func sizesOf(v any) (int, int) {
	dims, _ := numberAt(v, 0, "dims").(int)
	if rows, is := seek(v, "matrix", "time"); is {
		return len(rows.(list)), dims
	}
	places, _ := seek(v, "graph", "places")
	return places.(int), dims
}

// reckoned: a request's first fault.
func reckoned(v any) api.Fault {
	f := then(known("dims", "graph", "matrix", "vehicles", "jobs", "shipments"), perhaps("dims", numberRule(0, 3)), roadsRule)(v, nil)
	if f.Code != 0 {
		return f
	}
	places, dims := sizesOf(v)
	f = then(needed("vehicles", most(4, vehicleRule(places, dims))), perhaps("jobs", most(12, jobRule(places, dims))))(v, nil)
	if f.Code != 0 {
		return f
	}
	jobs, _ := listAt(v, "jobs")
	return perhaps("shipments", most(12-len(jobs), shipmentRule(places, dims)))(v, nil)
}

// numberAt: what stands at a path, or another one.
func numberAt(v any, other int, path ...any) any {
	if x, is := seek(v, path...); is {
		return x
	}
	return other
}

func listAt(v any, path ...any) (list, bool) {
	x, _ := seek(v, path...)
	l, is := x.(list)
	return l, is
}

func ints(l list) []int {
	var all []int
	for _, x := range l {
		all = append(all, x.(int))
	}
	return all
}

func madeWindows(v any) []api.Window {
	l, is := listAt(v, "windows")
	if !is {
		return always()
	}
	var all []api.Window
	for _, x := range l {
		all = append(all, spans(ints(x.(list))...)...)
	}
	return all
}

func madeAmounts(v any, dims int, name string) []int {
	if l, is := listAt(v, name); is {
		return ints(l)
	}
	return make([]int, dims)
}

func madeSkills(v any) uint64 {
	l, _ := listAt(v, "skills")
	set := uint64(0)
	for _, s := range ints(l) {
		set += 1 << s
	}
	return set
}

func madeStop(v any) api.Stop {
	return api.Stop{Place: numberAt(v, 0, "place").(int), Service: numberAt(v, 0, "service").(int), Windows: madeWindows(v)}
}

func madeVehicle(v any, dims int) api.Vehicle {
	car := api.Vehicle{
		Start: numberAt(v, 0, "start").(int), End: numberAt(v, 0, "end").(int), Cap: madeAmounts(v, dims, "capacity"), Skills: madeSkills(v), Shift: always()[0],
		Fixed: numberAt(v, 0, "fixed").(int), PerTime: numberAt(v, 1, "per_time").(int), PerDist: numberAt(v, 0, "per_dist").(int), MaxTasks: numberAt(v, 12, "max_tasks").(int),
	}
	if l, is := listAt(v, "shift"); is {
		car.Shift = spans(ints(l)...)[0]
	}
	breaks, _ := listAt(v, "breaks")
	for _, x := range breaks {
		car.Breaks = append(car.Breaks, api.Break{Windows: madeWindows(x), Service: numberAt(x, 0, "service").(int)})
	}
	return car
}

// madeMatrices: as they are told, or the least weights of a graph, way by way.
func madeMatrices(v any) (api.Matrix, api.Matrix) {
	places, _ := sizesOf(v)
	var both [2]api.Matrix
	var arcs [][]int
	told, _ := listAt(v, "graph", "arcs")
	for _, arc := range told {
		arcs = append(arcs, ints(arc.(list)))
	}
	for k, name := range []string{"time", "dist"} {
		cells := slices.Repeat([]int{-1}, places*places)
		for i := range places {
			cells[i*places+i] = 0
		}
		put := func(i, j, n int) {
			if cells[i*places+j] < 0 || n < cells[i*places+j] {
				cells[i*places+j] = n
			}
		}
		rows, _ := listAt(v, "matrix", name)
		for i, row := range rows {
			for j, n := range row.(list) {
				if n != nil {
					put(i, j, n.(int))
				}
			}
		}
		for range min(places, len(arcs)) {
			for i := range places {
				for _, l := range arcs {
					if cells[i*places+l[0]] >= 0 {
						put(i, l[1], cells[i*places+l[0]]+l[2+k])
					}
				}
			}
		}
		both[k] = api.Matrix{N: places, Cells: cells}
	}
	return both[0], both[1]
}

// made: what a request without a fault asks for.
func made(v any) api.Problem {
	_, dims := sizesOf(v)
	p := api.Problem{Dims: dims}
	p.Time, p.Dist = madeMatrices(v)
	l, _ := listAt(v, "vehicles")
	for _, x := range l {
		p.Vehicles = append(p.Vehicles, madeVehicle(x, dims))
	}
	l, _ = listAt(v, "jobs")
	for _, x := range l {
		p.Jobs = append(p.Jobs, api.Job{Stop: madeStop(x), Drop: madeAmounts(x, dims, "drop"), Pick: madeAmounts(x, dims, "pick"), Skills: madeSkills(x), Priority: numberAt(x, 1, "priority").(int)})
	}
	l, _ = listAt(v, "shipments")
	for _, x := range l {
		from, _ := seek(x, "pickup")
		to, _ := seek(x, "delivery")
		p.Shipments = append(p.Shipments, api.Shipment{Pickup: madeStop(from), Delivery: madeStop(to), Amount: madeAmounts(x, dims, "amount"), Skills: madeSkills(x), Priority: numberAt(x, 1, "priority").(int)})
	}
	return p
}

// agree: does the program answer to a request what is reckoned here?
func agree(t *testing.T, request any) api.Errno {
	t.Helper()
	want := reckoned(request)
	if want.Code == api.OK {
		asks(t, request, made(request))
		return api.OK
	}
	p, f := ask.Problem(tree(t, text(request)))
	if f != want || !alike(p, api.Problem{}) {
		t.Errorf("P4: %s: %+v, want %+v", text(request), f, want)
	}
	return want.Code
}

// TestReckonedSamples: the requests that are written out ask for what is written out.
func TestReckonedSamples(t *testing.T) {
	for _, c := range []struct {
		request any
		want    api.Problem
	}{{town(), townProblem()}, {lake(), lakeProblem()}} {
		if reckoned(c.request) != (api.Fault{}) || !alike(made(c.request), c.want) {
			t.Errorf("the test's own reckoning: %+v, %+v", reckoned(c.request), made(c.request))
		}
	}
}

func TestDrawnRequests(t *testing.T) {
	r := rand.New(rand.NewSource(211))
	for range 3000 {
		if request := drawn(r); agree(t, request) != api.OK {
			t.Fatalf("the test's own request has a fault: %s", text(request))
		}
	}
}

// TestSpoiltRequests: requests in which up to five things were changed: each error is the first of some.
func TestSpoiltRequests(t *testing.T) {
	r := rand.New(rand.NewSource(212))
	seen := map[api.Errno]int{}
	for i := range 9000 {
		var request any = drawn(r)
		switch i % 3 {
		case 0:
			request = copyOf(town())
		case 1:
			request = copyOf(lake())
		}
		for range 1 + r.Intn(5) {
			request = spoilt(r, request)
		}
		seen[agree(t, request)]++
	}
	for _, e := range []api.Errno{api.OK, api.ErrType, api.ErrRange, api.ErrPlace, api.ErrMany, api.ErrSize, api.ErrField, api.ErrMissing, api.ErrBoth, api.ErrTwice} {
		if seen[e] < 3 {
			t.Errorf("error %d was the first of %d requests only", e, seen[e])
		}
	}
}
