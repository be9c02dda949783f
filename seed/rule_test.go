package seed

import (
	"math"
	"math/rand"
	"reflect"
	"slices"
	"sync"
	"testing"
	"time"

	"haulier/api"
)

// junk: what stands in spare room: nothing that may be.
func junk(t reflect.Type) reflect.Value {
	v := reflect.New(t).Elem()
	switch t.Kind() {
	case reflect.Int:
		v.SetInt(-77)
	case reflect.Uint64:
		v.SetUint(1 << 63)
	case reflect.Struct:
		for i := range t.NumField() {
			v.Field(i).Set(junk(t.Field(i).Type))
		}
	}
	return v
}

// spread: a copy down to its last list, each of which gets so much spare room with junk in it; with its own spare room, if whole.
func spread(v reflect.Value, room int, whole bool) reflect.Value {
	switch v.Kind() {
	case reflect.Struct:
		s := reflect.New(v.Type()).Elem()
		for i := range v.NumField() {
			s.Field(i).Set(spread(v.Field(i), room, whole))
		}
		return s
	case reflect.Slice:
		n := v.Len()
		if whole {
			n = v.Cap()
		}
		if n+room == 0 {
			return v
		}
		v = v.Slice(0, n)
		l := reflect.MakeSlice(v.Type(), n+room, n+room)
		for i := range n + room {
			if i < n {
				l.Index(i).Set(spread(v.Index(i), room, whole))
			} else {
				l.Index(i).Set(junk(v.Type().Elem()))
			}
		}
		return l.Slice(0, n)
	}
	return v
}

// roomy: a copy with spare room in all lists.
func roomy[T any](x T) T { return spread(reflect.ValueOf(x), 3, false).Interface().(T) }

// whole: a copy with all that stands in spare room.
func whole[T any](x T) T { return spread(reflect.ValueOf(x), 0, true).Interface().(T) }

// copied: a copy without spare room.
func copied[T any](x T) T { return spread(reflect.ValueOf(x), 0, false).Interface().(T) }

// scribble: writes over all lists in it, spare room too, the inner ones first.
func scribble(v reflect.Value) {
	switch v.Kind() {
	case reflect.Struct:
		for i := range v.NumField() {
			scribble(v.Field(i))
		}
	case reflect.Slice:
		v = v.Slice(0, v.Cap())
		for i := range v.Len() {
			scribble(v.Index(i))
			v.Index(i).Set(junk(v.Type().Elem()))
		}
	}
}

// Asked is a problem, a solution, and what is asked of them. (Its fields have great letters, so that they can be copied by reflection.)
type Asked struct {
	P       api.Problem
	S       api.Solution
	Vehicle int
	List    []api.Visit
	Task    api.Task
}

// Told is all that the calls answer.
type Told struct {
	Visits []api.Visit
	With   api.Solution
	Ways   [][]api.Visit
	Cost   int
	CostE  api.Errno
	Insert api.Solution
	Growth int
	There  bool
	Greedy api.Solution
}

func (a Asked) tell() Told {
	var x Told
	x.Visits = Visits(a.S, a.Vehicle)
	x.With = With(a.S, a.Vehicle, a.List)
	x.Ways = Ways(a.List, a.Task)
	x.Cost, x.CostE = Cost(a.P, a.Vehicle, a.List)
	x.Insert, x.Growth, x.There = Insert(a.P, a.S, a.Task)
	x.Greedy = Greedy(a.P)
	return x
}

// equal: the same answers; lists without elements are the same as nil.
func (x Told) equal(y Told) bool {
	return slices.Equal(x.Visits, y.Visits) && same(x.With, y.With) && sameLists(x.Ways, y.Ways) &&
		x.Cost == y.Cost && x.CostE == y.CostE && same(x.Insert, y.Insert) && x.Growth == y.Growth && x.There == y.There && same(x.Greedy, y.Greedy)
}

// questions: of problems, with right solutions and wrong ones.
func questions() []Asked {
	r := rand.New(rand.NewSource(155))
	p := town()
	l := []Asked{
		{api.Problem{}, api.Solution{}, 0, nil, api.Task{}},
		{p, api.Solution{}, 1, nil, jobTask(0)},
		{p, routes(route(0, job(0)), route(1, pickup(0), delivery(0))), 1, list(pickup(1), delivery(1)), shipTask(1)},
		{p, routes(route(0, job(0), job(2)), route(1)), 1, list(job(0)), jobTask(1)},
		{p, routes(route(1, job(0)), route(0, job(1)), route(1, job(2))), 1, list(job(0), job(0)), shipTask(0)},
		{p, routes(route(0), route(0), route(1)), 0, list(), jobTask(9)},
	}
	for range 500 {
		p := drawnProblem(r)
		s := drawnSolution(r, p)
		a := Asked{p, s, r.Intn(len(p.Vehicles) + 1), nil, drawnTask(r, p)}
		if len(s.Routes) > 0 {
			a.List = s.Routes[r.Intn(len(s.Routes))].Visits
		}
		l = append(l, copied(a))
	}
	return l
}

// strangers: what is no problem, or asks what isn't there.
func strangers() []Asked {
	const least, most = math.MinInt, math.MaxInt
	ends := []int{least, least + 1, -1 << 62, -1 << 32, -2, -1, 0, 1, 2, 3, 4, 5, 100, 1 << 32, 1 << 62, most - 1, most}
	base := Asked{town(), routes(route(0, job(0), pickup(1), delivery(1)), route(1, job(2))), 0, list(job(0), pickup(1), delivery(1)), shipTask(0)}
	var l []Asked
	put := func(change func(a *Asked)) {
		a := copied(base)
		change(&a)
		l = append(l, a)
	}
	for _, n := range ends {
		put(func(a *Asked) { a.Vehicle = n })
		put(func(a *Asked) { a.Task = jobTask(n) })
		put(func(a *Asked) { a.Task = shipTask(n) })
		put(func(a *Asked) { a.S.Routes[0].Vehicle = n })
		put(func(a *Asked) { a.S.Routes[1].Vehicle = n })
		put(func(a *Asked) { a.S.Routes[0].Vehicle, a.S.Routes[1].Vehicle, a.Vehicle = n, n, n })
		for k := api.VisitKind(-1); k <= api.AtEnd+1; k++ {
			put(func(a *Asked) { a.S.Routes[0].Visits[1] = api.Visit{Kind: k, Item: n} })
			put(func(a *Asked) { a.List[1] = api.Visit{Kind: k, Item: n} })
		}
		put(func(a *Asked) { a.S.Routes[1].Visits[0].Kind = api.VisitKind(n) })
		put(func(a *Asked) { a.P.Dims = n })
		put(func(a *Asked) { a.P.Time.N = n })
		put(func(a *Asked) { a.P.Dist.N = n })
		put(func(a *Asked) { a.P.Time.N, a.P.Dist.N = n, n })
		put(func(a *Asked) { a.P.Time.Cells[1], a.P.Dist.Cells[6] = n, n })
		put(func(a *Asked) { a.P.Vehicles[0].Start = n })
		put(func(a *Asked) { a.P.Vehicles[1].End = n })
		put(func(a *Asked) { a.P.Vehicles[0].Shift.From = n })
		put(func(a *Asked) { a.P.Vehicles[0].Shift.To = n })
		put(func(a *Asked) { a.P.Vehicles[1].MaxTasks = n })
		put(func(a *Asked) {
			a.P.Vehicles[0].Fixed, a.P.Vehicles[0].PerTime, a.P.Vehicles[0].PerDist = n, n, n
		})
		put(func(a *Asked) { a.P.Vehicles[0].Cap = []int{n, n} })
		put(func(a *Asked) { a.P.Jobs[0].Drop, a.P.Jobs[1].Pick = []int{n, n}, []int{n, n} })
		put(func(a *Asked) { a.P.Jobs[0].Priority, a.P.Shipments[0].Priority = n, -n })
		put(func(a *Asked) { a.P.Jobs[1].Stop = api.Stop{Place: n, Service: n, Windows: spans(n, n, n, n)} })
		put(func(a *Asked) { a.P.Shipments[0].Amount = []int{n, -n} })
		put(func(a *Asked) { a.P.Shipments[0].Pickup.Place = n })
		put(func(a *Asked) { a.P.Shipments[1].Delivery.Service = n })
		put(func(a *Asked) { a.P.Vehicles[0].Breaks[0] = api.Break{Service: n, Windows: spans(n, most)} })
	}
	put(func(a *Asked) { a.P.Time.Cells = nil })
	put(func(a *Asked) { a.P.Dist.Cells = a.P.Dist.Cells[:7] })
	put(func(a *Asked) { a.P.Vehicles = nil })
	put(func(a *Asked) { a.P.Vehicles = make([]api.Vehicle, 9) })
	put(func(a *Asked) { a.P.Vehicles[0].Cap, a.P.Vehicles[1].Cap = nil, make([]int, 9) })
	put(func(a *Asked) { a.P.Vehicles[0].Breaks = make([]api.Break, 9) })
	put(func(a *Asked) { a.P.Jobs = nil })
	put(func(a *Asked) { a.P.Jobs = make([]api.Job, 3) })
	put(func(a *Asked) { a.P.Shipments = nil })
	put(func(a *Asked) { a.P.Shipments = make([]api.Shipment, 2) })
	put(func(a *Asked) { a.P = api.Problem{} })
	put(func(a *Asked) { a.P = api.Problem{Vehicles: make([]api.Vehicle, 1)} })
	put(func(a *Asked) { a.S.Routes = make([]api.Route, 5) })
	put(func(a *Asked) { a.S.Routes = append(a.S.Routes, a.S.Routes...) })
	return l
}

// all: both.
func all() []Asked { return append(questions(), strangers()...) }

// TestCallsEnd: no call panics, whatever it is handed.
func TestCallsEnd(t *testing.T) {
	for _, a := range all() {
		a.tell()
	}
}

// within: does it end in good time?
func within(t *testing.T, what string, call func()) {
	t.Helper()
	done := make(chan int)
	go func() {
		call()
		close(done)
	}()
	select {
	case <-done:
	case <-time.After(time.Minute):
		t.Fatalf("P1: %s: it doesn't end", what)
	}
}

// TestManyEnd: more visits, routes and tasks than there may be: calls end in good time.
func TestManyEnd(t *testing.T) {
	for _, v := range list(job(0), pickup(0), delivery(0), pause(0), api.Visit{}) {
		long := slices.Repeat(list(v), 1000000)
		s := routes(route(0, long...), route(1, long...))
		within(t, "a long route", func() {
			Visits(s, 1)
			With(s, 1, long)
			Cost(town(), 0, long)
			Insert(town(), s, jobTask(1))
		})
	}
	s := routes(slices.Repeat([]api.Route{route(1, job(0)), route(0, job(1))}, 100000)...)
	within(t, "many routes", func() {
		Visits(s, 2)
		With(s, 2, list(job(2)))
		Insert(town(), s, jobTask(2))
	})
	// No problem: so many tasks, all of which one vehicle could take.
	p := village(cars(0), 1)
	p.Vehicles[0].MaxTasks = math.MaxInt
	p.Jobs = slices.Repeat(p.Jobs, 2000)
	p.Shipments = slices.Repeat([]api.Shipment{{Pickup: stop(1), Delivery: stop(1)}}, 2001)
	var l []api.Visit
	for i := range 2000 {
		l = append(l, job(i), pickup(i), delivery(i))
	}
	within(t, "many tasks", func() {
		Insert(p, routes(route(0, l...)), shipTask(2000))
		Greedy(p)
	})
}

// TestNothingBeside: beside false there is neither a solution nor a growth, beside an error no cost.
func TestNothingBeside(t *testing.T) {
	for _, a := range all() {
		x := a.tell()
		if !x.There && (x.Growth != 0 || x.Insert.Routes != nil) {
			t.Errorf("R3: %+v: Insert(%v, %v): %v, %d, false", a.P, a.S, a.Task, x.Insert, x.Growth)
		}
		if x.CostE != api.OK && x.Cost != 0 {
			t.Errorf("R3: %+v: Cost(%d, %v): %d, %d", a.P, a.Vehicle, a.List, x.Cost, x.CostE)
		}
	}
}

// TestArgumentsStay: neither what is handed in nor its spare room is changed.
func TestArgumentsStay(t *testing.T) {
	for _, a := range all() {
		a = roomy(a)
		was := whole(a)
		a.tell()
		if !reflect.DeepEqual(was, whole(a)) {
			t.Fatalf("R6: %+v became %+v", was, whole(a))
		}
	}
}

// TestSpareRoomIsNone: what stands behind a list's end isn't of it.
func TestSpareRoomIsNone(t *testing.T) {
	for _, a := range questions() {
		if want, got := a.tell(), roomy(a).tell(); !want.equal(got) {
			t.Errorf("R6: %+v, with spare room %+v", want, got)
		}
	}
}

// lists: all lists of visits of an answer.
func (x Told) lists() [][]api.Visit {
	l := append([][]api.Visit{x.Visits}, x.Ways...)
	for _, s := range []api.Solution{x.With, x.Insert, x.Greedy} {
		for _, r := range s.Routes {
			l = append(l, r.Visits)
		}
	}
	return l
}

// TestNoListShares: each list of visits is memory of its own: written over one by one, spare room too, each keeps what was written last.
func TestNoListShares(t *testing.T) {
	for _, a := range questions() {
		lists := roomy(a).tell().lists()
		for i, l := range lists {
			for j := range l[:cap(l)] {
				l[:cap(l)][j].Item = i
			}
		}
		for i, l := range lists {
			for _, v := range l[:cap(l)] {
				if v.Item != i {
					t.Fatalf("R6: %+v: lists %d and %d share memory", a, i, v.Item)
				}
			}
		}
	}
}

// TestAnswersAreNew: answers are the caller's: written over, spare room too, they change neither what was handed in nor another answer; and what is handed in, written over, changes no answer.
func TestAnswersAreNew(t *testing.T) {
	for _, a := range questions() {
		a = roomy(a)
		was := whole(a)
		first, second := a.tell(), a.tell()
		want := copied(first)
		scribble(reflect.ValueOf(&second).Elem())
		if !first.equal(want) {
			t.Fatalf("R6: %+v became %+v", want, first)
		}
		if !reflect.DeepEqual(was, whole(a)) {
			t.Fatalf("R6: what was handed in became %+v", whole(a))
		}
		if again := a.tell(); !again.equal(want) {
			t.Fatalf("R6: %+v, then %+v", want, again)
		}
		scribble(reflect.ValueOf(&a).Elem())
		if !first.equal(want) {
			t.Fatalf("R6: %+v became %+v", want, first)
		}
	}
}

// emptied: a copy in which lists without elements are nil, or are empty with room.
func emptied(v reflect.Value, none bool) reflect.Value {
	switch v.Kind() {
	case reflect.Struct:
		s := reflect.New(v.Type()).Elem()
		for i := range v.NumField() {
			s.Field(i).Set(emptied(v.Field(i), none))
		}
		return s
	case reflect.Slice:
		switch {
		case v.Len() == 0 && none:
			return reflect.Zero(v.Type())
		case v.Len() == 0:
			return reflect.MakeSlice(v.Type(), 0, 2)
		}
		l := reflect.MakeSlice(v.Type(), v.Len(), v.Len())
		for i := range v.Len() {
			l.Index(i).Set(emptied(v.Index(i), none))
		}
		return l
	}
	return v
}

// with: the question with empty lists as nil, or as empty ones.
func (a Asked) with(none bool) Asked {
	return emptied(reflect.ValueOf(a), none).Interface().(Asked)
}

// TestNilAndEmpty: lists without elements mean the same.
func TestNilAndEmpty(t *testing.T) {
	for _, a := range all() {
		if want, got := a.with(true).tell(), a.with(false).tell(); !want.equal(got) {
			t.Errorf("R5: %+v of nil, %+v of empty lists", want, got)
		}
	}
}

// TestSameAgain: what was asked before changes no answer.
func TestSameAgain(t *testing.T) {
	l := all()
	var want []Told
	for _, a := range l {
		want = append(want, a.tell())
	}
	for i := range l {
		i = len(l) - 1 - i
		if got := l[i].tell(); !got.equal(want[i]) {
			t.Errorf("R8: %+v, then %+v", want[i], got)
		}
	}
}

// TestAllAtOnce: calls of several goroutines on the same problems don't touch each other.
func TestAllAtOnce(t *testing.T) {
	l := questions()
	var want []Told
	for _, a := range l {
		want = append(want, a.tell())
	}
	var wait sync.WaitGroup
	for range 8 {
		wait.Go(func() {
			for i, a := range l {
				if got := a.tell(); !got.equal(want[i]) {
					t.Errorf("R8: %+v, then %+v", want[i], got)
				}
			}
		})
	}
	wait.Wait()
}
