package ask_test

import (
	"math/rand"
	"reflect"
	"slices"
	"strconv"
	"strings"
	"testing"

	"haulier/api"
	"haulier/ask"
	"haulier/json"
	"haulier/model"
)

// A request's values are written as: nil, bool, int, string, list, obj.
type (
	list []any
	obj  []pair
	pair struct {
		name  string
		value any
	}
)

// text: a value as JSON.
func text(v any) string {
	switch x := v.(type) {
	case nil:
		return "null"
	case bool:
		return strconv.FormatBool(x)
	case int:
		return strconv.Itoa(x)
	case string:
		return strconv.Quote(x)
	case list:
		var parts []string
		for _, kid := range x {
			parts = append(parts, text(kid))
		}
		return "[" + strings.Join(parts, ",") + "]"
	case obj:
		var parts []string
		for _, p := range x {
			parts = append(parts, strconv.Quote(p.name)+":"+text(p.value))
		}
		return "{" + strings.Join(parts, ",") + "}"
	}
	panic("no value of JSON")
}

// tree: a text's tree.
func tree(t testing.TB, s string) api.Tree {
	t.Helper()
	v, at, e := json.Parse([]byte(s))
	if e != api.OK {
		t.Fatalf("the test's own text is none: %d at %d: %s", e, at, s)
	}
	return v
}

// copyOf: a value down to its last list.
func copyOf(v any) any {
	switch x := v.(type) {
	case list:
		l := list{}
		for _, kid := range x {
			l = append(l, copyOf(kid))
		}
		return l
	case obj:
		o := obj{}
		for _, p := range x {
			o = append(o, pair{p.name, copyOf(p.value)})
		}
		return o
	}
	return v
}

// seek: the value at a path of names and places; nil and false, if there is none.
func seek(v any, path ...any) (any, bool) {
	for _, step := range path {
		switch x := v.(type) {
		case list:
			i, is := step.(int)
			if !is || i >= len(x) {
				return nil, false
			}
			v = x[i]
		case obj:
			name, is := step.(string)
			i := slices.IndexFunc(x, func(p pair) bool { return p.name == name })
			if !is || i < 0 {
				return nil, false
			}
			v = x[i].value
		default:
			return nil, false
		}
	}
	return v, true
}

// gone is put where a value is to be taken away.
type gone struct{}

// put: the value with another one at a path; a name that an object lacks is put behind its other ones.
func put(v any, with any, path ...any) any {
	if len(path) == 0 {
		return with
	}
	switch x := v.(type) {
	case list:
		i := path[0].(int)
		if i == len(x) {
			return append(slices.Clone(x), with)
		}
		kid := put(x[i], with, path[1:]...)
		if kid == (gone{}) {
			return slices.Delete(slices.Clone(x), i, i+1)
		}
		l := slices.Clone(x)
		l[i] = kid
		return l
	case obj:
		name := path[0].(string)
		i := slices.IndexFunc(x, func(p pair) bool { return p.name == name })
		if i < 0 {
			return append(slices.Clone(x), pair{name, put(nil, with, path[1:]...)})
		}
		kid := put(x[i].value, with, path[1:]...)
		if kid == (gone{}) {
			return slices.Delete(slices.Clone(x), i, i+1)
		}
		o := slices.Clone(x)
		o[i].value = kid
		return o
	}
	panic("no such path")
}

// joined: a path as it is told.
func joined(path []any) string {
	var parts []string
	for _, step := range path {
		switch x := step.(type) {
		case int:
			parts = append(parts, strconv.Itoa(x))
		case string:
			parts = append(parts, x)
		}
	}
	return strings.Join(parts, ".")
}

// paths: of all values, each ahead of its kids, in the order of the text.
func paths(v any, at ...any) [][]any {
	all := [][]any{slices.Clone(at)}
	switch x := v.(type) {
	case list:
		for i, kid := range x {
			all = append(all, paths(kid, append(slices.Clone(at), i)...)...)
		}
	case obj:
		for _, p := range x {
			all = append(all, paths(p.value, append(slices.Clone(at), p.name)...)...)
		}
	}
	return all
}

// numbers: a list of numbers.
func numbers(l ...int) list {
	all := list{}
	for _, n := range l {
		all = append(all, n)
	}
	return all
}

// spans: windows from pairs of numbers; as a request has them, and as a problem has them.
func spans(ends ...int) []api.Window {
	var l []api.Window
	for i := 0; i+1 < len(ends); i += 2 {
		l = append(l, api.Window{From: ends[i], To: ends[i+1]})
	}
	return l
}

func pairs(ends ...int) list {
	l := list{}
	for _, w := range spans(ends...) {
		l = append(l, numbers(w.From, w.To))
	}
	return l
}

// always: the windows of all times.
func always() []api.Window { return spans(0, 1000000) }

// plain: the barest of requests, of this many places in a graph without arcs.
func plain(places int) obj {
	return obj{{"graph", obj{{"places", places}, {"arcs", list{}}}}, {"vehicles", list{}}}
}

// town: a request in which each field stands, as a matrix, and no number twice where it can be told apart.
func town() obj {
	return obj{
		{"dims", 2},
		{"matrix", obj{
			{"time", list{list{0, 7, nil}, list{8, 0, 6}, list{1000000, 4, 0}}},
			{"dist", list{list{0, 70, 110}, list{nil, 0, 52}, list{117, 1000000, 0}}},
		}},
		{"vehicles", list{
			obj{
				{"start", 1}, {"end", 2}, {"capacity", list{100, 200}}, {"skills", list{3, 0, 61}}, {"shift", list{20, 1000}},
				{"fixed", 900}, {"per_time", 30}, {"per_dist", 40}, {"max_tasks", 5},
				{"breaks", list{obj{{"windows", pairs(50, 60, 61, 70)}, {"service", 15}}, obj{{"windows", pairs(80, 90)}, {"service", 16}}}},
			},
			obj{
				{"start", 2}, {"end", 0}, {"capacity", list{101, 201}}, {"skills", list{5}}, {"shift", list{21, 21}},
				{"fixed", 901}, {"per_time", 31}, {"per_dist", 41}, {"max_tasks", 6}, {"breaks", list{}},
			},
		}},
		{"jobs", list{
			obj{{"place", 1}, {"service", 17}, {"windows", pairs(1, 2, 3, 4, 5, 6, 7, 1000000)}, {"drop", list{300, 400}}, {"pick", list{301, 401}}, {"skills", list{1, 2}}, {"priority", 100}},
			obj{{"place", 2}, {"service", 18}, {"windows", pairs(9, 9)}, {"drop", list{302, 402}}, {"pick", list{303, 403}}, {"skills", list{}}, {"priority", 0}},
		}},
		{"shipments", list{
			obj{
				{"pickup", obj{{"place", 1}, {"service", 19}, {"windows", pairs(11, 12)}}},
				{"delivery", obj{{"place", 2}, {"service", 23}, {"windows", pairs(13, 14, 15, 16)}}},
				{"amount", list{500, 600}}, {"skills", list{4}}, {"priority", 50},
			},
		}},
	}
}

// townProblem: what that one asks for.
func townProblem() api.Problem {
	return api.Problem{
		Dims: 2,
		Time: api.Matrix{N: 3, Cells: []int{0, 7, -1, 8, 0, 6, 1000000, 4, 0}},
		Dist: api.Matrix{N: 3, Cells: []int{0, 70, 110, -1, 0, 52, 117, 1000000, 0}},
		Vehicles: []api.Vehicle{
			{
				Start: 1, End: 2, Cap: []int{100, 200}, Skills: 1<<61 | 9, Shift: api.Window{From: 20, To: 1000},
				Fixed: 900, PerTime: 30, PerDist: 40, MaxTasks: 5,
				Breaks: []api.Break{{Windows: spans(50, 60, 61, 70), Service: 15}, {Windows: spans(80, 90), Service: 16}},
			},
			{
				Start: 2, End: 0, Cap: []int{101, 201}, Skills: 32, Shift: api.Window{From: 21, To: 21},
				Fixed: 901, PerTime: 31, PerDist: 41, MaxTasks: 6,
			},
		},
		Jobs: []api.Job{
			{Stop: api.Stop{Place: 1, Service: 17, Windows: spans(1, 2, 3, 4, 5, 6, 7, 1000000)}, Drop: []int{300, 400}, Pick: []int{301, 401}, Skills: 6, Priority: 100},
			{Stop: api.Stop{Place: 2, Service: 18, Windows: spans(9, 9)}, Drop: []int{302, 402}, Pick: []int{303, 403}},
		},
		Shipments: []api.Shipment{{
			Pickup:   api.Stop{Place: 1, Service: 19, Windows: spans(11, 12)},
			Delivery: api.Stop{Place: 2, Service: 23, Windows: spans(13, 14, 15, 16)},
			Amount:   []int{500, 600}, Skills: 16, Priority: 50,
		}},
	}
}

// lake: a request of a graph, all of whose other fields that need not be there lack.
func lake() obj {
	arcs := list{numbers(0, 1, 5, 9), numbers(0, 1, 4, 12), numbers(1, 1, 1, 1), numbers(1, 2, 3, 2), numbers(0, 2, 9, 10), numbers(2, 0, 0, 0)}
	return obj{
		{"graph", obj{{"places", 4}, {"arcs", arcs}}},
		{"vehicles", list{obj{{"start", 0}, {"end", 3}}}},
		{"jobs", list{obj{{"place", 1}}}},
		{"shipments", list{obj{{"pickup", obj{{"place", 2}}}, {"delivery", obj{{"place", 3}}}}}},
	}
}

// lakeProblem: what that one asks for.
func lakeProblem() api.Problem {
	return api.Problem{
		Time:      api.Matrix{N: 4, Cells: []int{0, 4, 7, -1, 3, 0, 3, -1, 0, 4, 0, -1, -1, -1, -1, 0}},
		Dist:      api.Matrix{N: 4, Cells: []int{0, 9, 10, -1, 2, 0, 2, -1, 0, 9, 0, -1, -1, -1, -1, 0}},
		Vehicles:  []api.Vehicle{{Start: 0, End: 3, Shift: api.Window{To: 1000000}, PerTime: 1, MaxTasks: 12}},
		Jobs:      []api.Job{{Stop: api.Stop{Place: 1, Windows: always()}, Priority: 1}},
		Shipments: []api.Shipment{{Pickup: api.Stop{Place: 2, Windows: always()}, Delivery: api.Stop{Place: 3, Windows: always()}, Priority: 1}},
	}
}

// full: a copy with empty lists in place of nil, and without spare room.
func full[T any](x T) T { return filled(reflect.ValueOf(x)).Interface().(T) }

func filled(v reflect.Value) reflect.Value {
	switch v.Kind() {
	case reflect.Struct:
		s := reflect.New(v.Type()).Elem()
		for i := range v.NumField() {
			s.Field(i).Set(filled(v.Field(i)))
		}
		return s
	case reflect.Slice:
		l := reflect.MakeSlice(v.Type(), v.Len(), v.Len())
		for i := range v.Len() {
			l.Index(i).Set(filled(v.Index(i)))
		}
		return l
	}
	return v
}

// alike: are all fields the same, whatever they are? A list without elements is the same as nil.
func alike[T any](a, b T) bool { return reflect.DeepEqual(full(a), full(b)) }

// asks: does a request ask for this problem?
func asks(t *testing.T, request any, want api.Problem) {
	t.Helper()
	p, f := ask.Problem(tree(t, text(request)))
	if f != (api.Fault{}) || !alike(p, want) {
		t.Errorf("P21.1: %s:\n%+v, %+v\nwant %+v", text(request), p, f, want)
	}
	if e := model.Check(p); e != api.OK {
		t.Errorf("P21.1: %s: no problem: %d", text(request), e)
	}
}

// faulty: is this the first fault of a request, and nothing is beside it?
func faulty(t *testing.T, request any, code api.Errno, path ...any) {
	t.Helper()
	want := api.Fault{Code: code, Path: joined(path)}
	p, f := ask.Problem(tree(t, text(request)))
	if f != want {
		t.Errorf("P21.1: %s: %+v, want %+v", text(request), f, want)
	}
	if !reflect.ValueOf(p).IsZero() {
		t.Errorf("R3: %s: %+v beside a fault", text(request), p)
	}
}

// lawful: has a request no fault?
func lawful(t *testing.T, request any) api.Problem {
	t.Helper()
	p, f := ask.Problem(tree(t, text(request)))
	if f != (api.Fault{}) {
		t.Errorf("P21.1: %s: %+v, want none", text(request), f)
	} else if e := model.Check(p); e != api.OK {
		t.Errorf("P21.1: %s: no problem: %d", text(request), e)
	}
	return p
}

// drawnWindows: none or more that may be.
func drawnWindows(r *rand.Rand) list {
	l := list{}
	from := r.Intn(3)
	for range 1 + r.Intn(4) {
		to := from + r.Intn(5)
		l = append(l, numbers(from, to))
		from = to + 1 + r.Intn(3)
	}
	return l
}

func drawnSkills(r *rand.Rand) list {
	return numbers(r.Perm(62)[:r.Intn(5)]...)
}

func drawnAmounts(r *rand.Rand, dims int) list {
	l := list{}
	for range dims {
		l = append(l, r.Intn(1000001))
	}
	return l
}

// sifted: the fields in any order, some of those that need not be there left out.
func sifted(r *rand.Rand, o obj, needed ...string) obj {
	o = slices.DeleteFunc(o, func(p pair) bool { return !slices.Contains(needed, p.name) && r.Intn(3) == 0 })
	r.Shuffle(len(o), func(i, j int) { o[i], o[j] = o[j], o[i] })
	return o
}

func drawnRows(r *rand.Rand, n int) list {
	rows := list{}
	for i := range n {
		row := list{}
		for j := range n {
			switch {
			case i == j:
				row = append(row, 0)
			case r.Intn(4) == 0:
				row = append(row, nil)
			default:
				row = append(row, r.Intn(20))
			}
		}
		rows = append(rows, row)
	}
	return rows
}

func drawnArcs(r *rand.Rand, n int) list {
	l := list{}
	for range r.Intn(4 * n) {
		l = append(l, numbers(r.Intn(n), r.Intn(n), r.Intn(9), r.Intn(9)))
	}
	return l
}

func drawnStop(r *rand.Rand, n int) obj {
	return obj{{"place", r.Intn(n)}, {"service", r.Intn(1000001)}, {"windows", drawnWindows(r)}}
}

func drawnVehicle(r *rand.Rand, n, dims int) obj {
	breaks := list{}
	for range r.Intn(3) {
		breaks = append(breaks, sifted(r, obj{{"windows", drawnWindows(r)}, {"service", r.Intn(9)}}))
	}
	return sifted(r, obj{
		{"start", r.Intn(n)}, {"end", r.Intn(n)}, {"capacity", drawnAmounts(r, dims)}, {"skills", drawnSkills(r)}, {"shift", drawnWindows(r)[0]},
		{"fixed", r.Intn(1000001)}, {"per_time", r.Intn(1000001)}, {"per_dist", r.Intn(1000001)}, {"max_tasks", r.Intn(13)}, {"breaks", breaks},
	}, "start", "end")
}

// drawn: a request without a fault.
func drawn(r *rand.Rand) obj {
	n, dims := 1+r.Intn(6), r.Intn(4)
	cars, jobs, ships := list{}, list{}, list{}
	for range r.Intn(5) {
		cars = append(cars, drawnVehicle(r, n, dims))
	}
	for range r.Intn(5) {
		o := append(drawnStop(r, n), obj{{"drop", drawnAmounts(r, dims)}, {"pick", drawnAmounts(r, dims)}, {"skills", drawnSkills(r)}, {"priority", r.Intn(101)}}...)
		jobs = append(jobs, sifted(r, o, "place"))
	}
	for range r.Intn(5) {
		ships = append(ships, sifted(r, obj{
			{"pickup", sifted(r, drawnStop(r, n), "place")}, {"delivery", sifted(r, drawnStop(r, n), "place")},
			{"amount", drawnAmounts(r, dims)}, {"skills", drawnSkills(r)}, {"priority", r.Intn(101)},
		}, "pickup", "delivery"))
	}
	o := obj{{"dims", dims}, {"vehicles", cars}, {"jobs", jobs}, {"shipments", ships}}
	if r.Intn(2) == 0 {
		o = append(o, pair{"graph", sifted(r, obj{{"places", n}, {"arcs", drawnArcs(r, n)}}, "places", "arcs")})
	} else {
		o = append(o, pair{"matrix", sifted(r, obj{{"time", drawnRows(r, n)}, {"dist", drawnRows(r, n)}}, "time", "dist")})
	}
	return sifted(r, o, "dims", "vehicles", "graph", "matrix")
}

// junk: a value that may stand anywhere, and is seldom right there.
func junk(r *rand.Rand) any {
	all := []any{nil, true, false, "", "0", list{}, obj{}, list{0}, list{0, 0}, list{list{}}, list{list{0}}, list{obj{}}, list{5, 4}, list{3, 3, 3, 3}, obj{{"place", 0}}, obj{{"x", 0}},
		-1, 0, 1, 2, 3, 4, 6, 12, 13, 61, 62, 100, 101, 1000000, 1000001, 1<<62 - 99, -1<<62 + 99}
	return all[r.Intn(len(all))]
}

// names are all that stand in requests, and some that don't.
func names() []string {
	return []string{"dims", "graph", "matrix", "vehicles", "jobs", "shipments", "places", "arcs", "time", "dist", "start", "end", "capacity", "skills", "shift", "fixed", "per_time", "per_dist", "max_tasks", "breaks",
		"windows", "service", "place", "drop", "pick", "priority", "pickup", "delivery", "amount", "x", "", "Dims", "a.b", "dims "}
}

// spoilt: a request in which one thing was changed; it may be right still.
func spoilt(r *rand.Rand, request any) any {
	all := paths(request)
	path := all[r.Intn(len(all))]
	v, _ := seek(request, path...)
	switch x := v.(type) {
	case list:
		switch r.Intn(5) {
		case 0:
			if len(x) > 0 {
				return put(request, append(slices.Clone(x), copyOf(x[r.Intn(len(x))])), path...)
			}
		case 1:
			if len(x) > 0 {
				return put(request, gone{}, append(slices.Clone(path), r.Intn(len(x)))...)
			}
		case 2:
			l := slices.Clone(x)
			r.Shuffle(len(l), func(i, j int) { l[i], l[j] = l[j], l[i] })
			return put(request, l, path...)
		case 3:
			return put(request, append(slices.Clone(x), junk(r)), path...)
		}
	case obj:
		switch r.Intn(4) {
		case 0:
			if len(x) > 0 {
				return put(request, gone{}, append(slices.Clone(path), x[r.Intn(len(x))].name)...)
			}
		case 1, 2:
			name := names()[r.Intn(len(names()))]
			if _, is := seek(x, name); !is {
				return put(request, slices.Insert(slices.Clone(x), r.Intn(len(x)+1), pair{name, junk(r)}), path...)
			}
		}
	case int:
		if r.Intn(2) == 0 {
			return put(request, x+r.Intn(5)-2, path...)
		}
	}
	return put(request, junk(r), path...)
}
