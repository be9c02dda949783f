package reply_test

import (
	"math"
	"math/rand"
	"reflect"
	"slices"
	"testing"

	"haulier/api"
	"haulier/json"
	"haulier/reply"
)

// tree: a text's tree.
func tree(t testing.TB, s string) api.Tree {
	t.Helper()
	v, at, e := json.Parse([]byte(s))
	if e != api.OK {
		t.Fatalf("the test's own text is none: %d at %d: %s", e, at, s)
	}
	return v
}

// full: a copy with empty lists in place of nil, and without spare room.
func full[T any](x T) T { return filled(reflect.ValueOf(&x).Elem()).Interface().(T) }

func filled(v reflect.Value) reflect.Value {
	switch v.Kind() {
	case reflect.Struct:
		s := reflect.New(v.Type()).Elem()
		for i := range v.NumField() {
			s.Field(i).Set(filled(v.Field(i)))
		}
		return s
	case reflect.Slice:
		l := reflect.MakeSlice(v.Type(), v.Len(), v.Len())
		for i := range v.Len() {
			l.Index(i).Set(filled(v.Index(i)))
		}
		return l
	}
	return v
}

// alike: are all fields the same, whatever they are? A list without elements is the same as nil.
func alike[T any](a, b T) bool { return reflect.DeepEqual(full(a), full(b)) }

// visit, step: with figures that are all told apart.
func visit(k api.VisitKind, item int) api.Visit { return api.Visit{Kind: k, Item: item} }

func step(v api.Visit, first int, load ...int) api.Step {
	return api.Step{Visit: v, Place: first, Arrival: first + 1, Wait: first + 2, Service: first + 3, Load: load, Time: first + 4, Dist: first + 5}
}

// tour: an answer in which each field stands, each kind of visit and of task, and no number twice where it can be told apart.
func tour() api.Reply {
	return api.Reply{
		Optimal: true,
		Sums:    api.Sums{Routes: 101, Value: 102, Cost: 103, Time: 104, Dist: 105, Wait: 106, Service: 107, Left: 108},
		Plans: []api.Plan{
			{
				Vehicle: 201, Cost: 202, Time: 203, Dist: 204, Wait: 205, Service: 206,
				Steps: []api.Step{
					step(visit(api.AtStart, 300), 301, 307, 308, 309),
					step(visit(api.AtPickup, 310), 311, 317, 318, 319),
					step(visit(api.AtJob, 320), 321, 327, 328, 329),
					step(visit(api.AtBreak, 330), 331, 337, 338, 339),
					step(visit(api.AtDelivery, 340), 341, 347, 348, 349),
					step(visit(api.AtEnd, 350), 351, 357, 358, 359),
				},
			},
			{
				Vehicle: 211, Cost: 212, Time: 213, Dist: 214, Wait: 215, Service: 216,
				Steps: []api.Step{step(visit(api.AtStart, 0), 401), step(visit(api.AtEnd, 0), 411, 417)},
			},
			{Vehicle: 221, Cost: 222, Time: 223, Dist: 224, Wait: 225, Service: 226},
		},
		Left: []api.Task{{Ship: true, Item: 501}, {Item: 502}, {Item: 501}, {Ship: true, Item: 503}},
	}
}

// tourText: how the document has that one written.
const tourText = `{"status":"ok","optimal":true,` +
	`"summary":{"routes":101,"value":102,"cost":103,"time":104,"dist":105,"wait":106,"service":107,"left":108},` +
	`"routes":[` +
	`{"vehicle":201,"cost":202,"time":203,"dist":204,"wait":205,"service":206,"steps":[` +
	`{"type":"start","item":300,"place":301,"arrival":302,"wait":303,"service":304,"load":[307,308,309],"time":305,"dist":306},` +
	`{"type":"pickup","item":310,"place":311,"arrival":312,"wait":313,"service":314,"load":[317,318,319],"time":315,"dist":316},` +
	`{"type":"job","item":320,"place":321,"arrival":322,"wait":323,"service":324,"load":[327,328,329],"time":325,"dist":326},` +
	`{"type":"break","item":330,"place":331,"arrival":332,"wait":333,"service":334,"load":[337,338,339],"time":335,"dist":336},` +
	`{"type":"delivery","item":340,"place":341,"arrival":342,"wait":343,"service":344,"load":[347,348,349],"time":345,"dist":346},` +
	`{"type":"end","item":350,"place":351,"arrival":352,"wait":353,"service":354,"load":[357,358,359],"time":355,"dist":356}]},` +
	`{"vehicle":211,"cost":212,"time":213,"dist":214,"wait":215,"service":216,"steps":[` +
	`{"type":"start","item":0,"place":401,"arrival":402,"wait":403,"service":404,"load":[],"time":405,"dist":406},` +
	`{"type":"end","item":0,"place":411,"arrival":412,"wait":413,"service":414,"load":[417],"time":415,"dist":416}]},` +
	`{"vehicle":221,"cost":222,"time":223,"dist":224,"wait":225,"service":226,"steps":[]}],` +
	`"unassigned":[{"type":"shipment","item":501},{"type":"job","item":502},{"type":"job","item":501},{"type":"shipment","item":503}]}`

// zeroText: how the document has a zero answer written.
const zeroText = `{"status":"ok","optimal":false,"summary":{"routes":0,"value":0,"cost":0,"time":0,"dist":0,"wait":0,"service":0,"left":0},"routes":[],"unassigned":[]}`

// faulty: an answer that tells a fault.
func faulty(code api.Errno, at int, path string) api.Reply {
	return api.Reply{Fault: api.Fault{Code: code, At: at, Path: path}}
}

// ends: numbers that fit, and such as don't.
func ends() []int {
	return []int{math.MinInt, -1 << 62, -1 << 32, -2, -1, 0, 1, 2, 3, 5, 8, 100, 1 << 31, 1 << 32, api.MaxBig, 1 << 62, math.MaxInt - 1, math.MaxInt}
}

// drawnNumber: mostly small ones.
func drawnNumber(r *rand.Rand) int {
	if r.Intn(4) == 0 {
		l := ends()
		return l[r.Intn(len(l))]
	}
	return r.Intn(20) - 3
}

// drawnText: also such as is no UTF-8.
func drawnText(r *rand.Rand) string {
	l := []string{"", "jobs.0", "?", "error", "a\x00\"\\", "\xff", "\xed\xa0\x80", "\u20ac\U0001f600", "vehicles.1.start", "\ufffd"}
	return l[r.Intn(len(l))]
}

// drawnList: of up to so many less one.
func drawnList[T any](r *rand.Rand, below int, draw func(r *rand.Rand) T) []T {
	var l []T
	for range r.Intn(below) {
		l = append(l, draw(r))
	}
	return l
}

func drawnStep(r *rand.Rand) api.Step {
	s := step(visit(api.VisitKind(1+r.Intn(6)), drawnNumber(r)), 0, drawnList(r, 4, drawnNumber)...)
	for _, x := range []*int{&s.Place, &s.Arrival, &s.Wait, &s.Service, &s.Time, &s.Dist} {
		*x = drawnNumber(r)
	}
	return s
}

func drawnPlan(r *rand.Rand) api.Plan {
	p := api.Plan{Steps: drawnList(r, 5, drawnStep)}
	for _, x := range []*int{&p.Vehicle, &p.Cost, &p.Time, &p.Dist, &p.Wait, &p.Service} {
		*x = drawnNumber(r)
	}
	return p
}

func drawnTask(r *rand.Rand) api.Task { return api.Task{Ship: r.Intn(2) == 0, Item: drawnNumber(r)} }

// drawnReply: an answer of which all is told.
func drawnReply(r *rand.Rand) api.Reply {
	if r.Intn(4) == 0 {
		code := drawnNumber(r)
		if code == 0 {
			code = int(api.ErrUTF)
		}
		return faulty(api.Errno(code), drawnNumber(r), drawnText(r))
	}
	x := api.Reply{Optimal: r.Intn(2) == 0, Plans: drawnList(r, 4, drawnPlan), Left: drawnList(r, 4, drawnTask)}
	s := &x.Sums
	for _, n := range []*int{&s.Routes, &s.Value, &s.Cost, &s.Time, &s.Dist, &s.Wait, &s.Service, &s.Left} {
		*n = drawnNumber(r)
	}
	return x
}

// replies: answers of which all is told.
func replies() []api.Reply {
	r := rand.New(rand.NewSource(221))
	l := []api.Reply{{}, {Optimal: true}, tour(), faulty(api.ErrEnd, 3, ""), faulty(api.ErrSize, 0, "vehicles.0.capacity"), faulty(-1, -1, "\xff")}
	for range 300 {
		l = append(l, drawnReply(r))
	}
	return l
}

// halves: answers of which not all is told: kinds that aren't listed, a fault beside a solution, the rest of a fault that is none.
func halves() []api.Reply {
	var l []api.Reply
	for _, k := range []api.VisitKind{math.MinInt, -7, -1, 0, 7, 8, 1 << 32, 1<<32 + 1, math.MaxInt} {
		x := tour()
		x.Plans[0].Steps[2].Visit.Kind = k
		l = append(l, x)
	}
	x := tour()
	x.Fault = api.Fault{Code: api.ErrTime, At: 7, Path: "x"}
	l = append(l, x)
	x.Fault.Code = api.OK
	return append(l, x)
}

// spoilt: a tree in which one thing was changed; it may be that of an answer still.
func spoilt(r *rand.Rand, t api.Tree) api.Tree {
	t = full(t)
	i := r.Intn(len(t))
	v := &t[i]
	switch r.Intn(12) {
	case 0:
		v.Kind = api.JSONKind(r.Intn(8))
	case 1:
		v.Num = drawnNumber(r)
	case 2:
		v.Truth = !v.Truth
	case 3, 4:
		l := []string{"ok", "error", "job", "shipment", "pickup", "delivery", "break", "start", "end", "?", "", "x", "OK"}
		v.Text = l[r.Intn(len(l))]
	case 5:
		if n := len(v.Names); n > 0 {
			v.Names[r.Intn(n)] = v.Names[r.Intn(n)]
		}
	case 6:
		v.Names = append(v.Names, "x")
	case 7:
		if n := len(v.Kids); n > 0 {
			v.Kids[r.Intn(n)] = r.Intn(len(t)+3) - 1
		}
	case 8:
		if n := len(v.Kids); n > 0 {
			v.Kids = v.Kids[:n-1]
		}
	case 9:
		v.Kids = append(v.Kids, r.Intn(len(t)))
	case 10:
		return slices.Insert(t, i, t[r.Intn(len(t))])
	case 11:
		return slices.Delete(t, i, i+1)
	}
	return t
}

// trees: those of answers, and others.
func trees(t testing.TB) []api.Tree {
	r := rand.New(rand.NewSource(222))
	l := []api.Tree{nil, {}}
	for _, s := range []string{"null", "true", "7", `"ok"`, "[]", "{}", zeroText, tourText} {
		l = append(l, tree(t, s))
	}
	for _, x := range append(replies(), halves()...) {
		v := reply.Tree(x)
		l = append(l, v)
		for range 3 {
			v = spoilt(r, v)
			l = append(l, v)
			if len(v) == 0 {
				break
			}
		}
	}
	return l
}
