package drive_test

import (
	"math"
	"math/rand"
	"reflect"
	"slices"
	"sync"
	"testing"
	"time"

	"haulier/api"
	"haulier/drive"
	"haulier/seed"
)

// junk: what stands in spare room: nothing that may be.
func junk(t reflect.Type) reflect.Value {
	v := reflect.New(t).Elem()
	switch t.Kind() {
	case reflect.Int:
		v.SetInt(-77)
	case reflect.Uint64:
		v.SetUint(1 << 63)
	case reflect.Struct:
		for i := range t.NumField() {
			v.Field(i).Set(junk(t.Field(i).Type))
		}
	}
	return v
}

// spread: a copy down to its last list, each of which gets so much spare room with junk in it; with its own spare room, if whole.
func spread(v reflect.Value, room int, whole bool) reflect.Value {
	switch v.Kind() {
	case reflect.Struct:
		s := reflect.New(v.Type()).Elem()
		for i := range v.NumField() {
			s.Field(i).Set(spread(v.Field(i), room, whole))
		}
		return s
	case reflect.Slice:
		n := v.Len()
		if whole {
			n = v.Cap()
		}
		if n+room == 0 {
			return v
		}
		v = v.Slice(0, n)
		l := reflect.MakeSlice(v.Type(), n+room, n+room)
		for i := range n + room {
			if i < n {
				l.Index(i).Set(spread(v.Index(i), room, whole))
			} else {
				l.Index(i).Set(junk(v.Type().Elem()))
			}
		}
		return l.Slice(0, n)
	}
	return v
}

// roomy: a copy with spare room in all lists.
func roomy[T any](x T) T { return spread(reflect.ValueOf(x), 3, false).Interface().(T) }

// whole: a copy with all that stands in spare room.
func whole[T any](x T) T { return spread(reflect.ValueOf(x), 0, true).Interface().(T) }

// copied: a copy without spare room.
func copied[T any](x T) T { return spread(reflect.ValueOf(x), 0, false).Interface().(T) }

// scribble: writes over all lists in it, spare room too, the inner ones first.
func scribble(v reflect.Value) {
	switch v.Kind() {
	case reflect.Struct:
		for i := range v.NumField() {
			scribble(v.Field(i))
		}
	case reflect.Slice:
		v = v.Slice(0, v.Cap())
		for i := range v.Len() {
			scribble(v.Index(i))
			v.Index(i).Set(junk(v.Type().Elem()))
		}
	}
}

// Asked is a problem, a solution, and what is asked of them. (Its fields have great letters, so that they can be copied by reflection.)
type Asked struct {
	P     api.Problem
	S     api.Solution
	Steps int
	Draws []int
}

// Told is all that the calls answer.
type Told struct {
	Score    api.Score
	E        api.Errno
	Left     []api.Task
	Improved answer
}

func (a Asked) tell() Told {
	var x Told
	x.Score, x.E = drive.Score(a.P, a.S)
	x.Left = drive.Left(a.P, a.S)
	x.Improved.S, x.Improved.Taken, x.Improved.Read = drive.Improve(a.P, a.S, a.Steps, a.Draws)
	return x
}

// equal: the same answers; lists without elements are the same as nil.
func (x Told) equal(y Told) bool {
	return x.Score == y.Score && x.E == y.E && slices.Equal(x.Left, y.Left) && x.Improved.same(y.Improved)
}

// questions: of problems, with right solutions, and with such as have no score.
func questions() []Asked {
	r := rand.New(rand.NewSource(192))
	p := town()
	l := []Asked{
		{p, api.Solution{}, 0, nil},
		{p, api.Solution{}, 500, []int{3, -1}},
		{p, seed.Greedy(p), 0, []int{1}},
		{p, seed.Greedy(p), 700, draws(r, 20)},
		{p, routes(route(0, job(0), job(2)), route(1, pickup(0), delivery(0))), 300, nil},
		{p, routes(route(1, job(1)), route(0, job(0)), route(1), route(0)), 300, []int{1}},
		{village(nil, 1), api.Solution{}, 9, []int{0}},
		{village([]api.Vehicle{car(0)}), api.Solution{}, 9, []int{0}},
	}
	for range 150 {
		p := drawnProblem(r)
		for _, s := range append(starts(r, p), drawnRoutes(r, p)) {
			// Of what has a score and is wrong nothing is promised.
			if _, e := scoreOf(p, s); e == api.OK && wrongWith(p, s) != "" {
				continue
			}
			l = append(l, copied(Asked{p, s, r.Intn(200), draws(r, r.Intn(9))}))
		}
	}
	return l
}

// strangers: what is no problem, or a solution that isn't right.
func strangers() []Asked {
	const least, most = math.MinInt, math.MaxInt
	ends := []int{least, least + 1, -1 << 62, -1 << 32, -2, -1, 0, 1, 2, 3, 4, 5, 100, 1 << 32, 1 << 62, most - 1, most}
	base := Asked{town(), routes(route(0, job(0), pickup(1), delivery(1)), route(1, job(2))), 100, []int{1, 2, 3}}
	var l []Asked
	put := func(change func(a *Asked)) {
		a := copied(base)
		change(&a)
		l = append(l, a)
	}
	for _, n := range ends {
		put(func(a *Asked) { a.S.Routes[0].Vehicle = n })
		put(func(a *Asked) { a.S.Routes[1].Vehicle = n })
		put(func(a *Asked) { a.S.Routes[0].Vehicle, a.S.Routes[1].Vehicle = n, n })
		for k := api.VisitKind(-1); k <= api.AtEnd+1; k++ {
			put(func(a *Asked) { a.S.Routes[0].Visits[1] = api.Visit{Kind: k, Item: n} })
		}
		put(func(a *Asked) { a.S.Routes[1].Visits[0].Kind = api.VisitKind(n) })
		put(func(a *Asked) { a.P.Dims = n })
		put(func(a *Asked) { a.P.Time.N = n })
		put(func(a *Asked) { a.P.Dist.N = n })
		put(func(a *Asked) { a.P.Time.N, a.P.Dist.N = n, n })
		put(func(a *Asked) { a.P.Time.Cells[1], a.P.Dist.Cells[6] = n, n })
		put(func(a *Asked) { a.P.Vehicles[0].Start = n })
		put(func(a *Asked) { a.P.Vehicles[1].End = n })
		put(func(a *Asked) { a.P.Vehicles[0].Shift.From = n })
		put(func(a *Asked) { a.P.Vehicles[0].Shift.To = n })
		put(func(a *Asked) { a.P.Vehicles[1].MaxTasks = n })
		put(func(a *Asked) {
			a.P.Vehicles[0].Fixed, a.P.Vehicles[0].PerTime, a.P.Vehicles[0].PerDist = n, n, n
		})
		put(func(a *Asked) { a.P.Vehicles[0].Cap = []int{n, n} })
		put(func(a *Asked) { a.P.Jobs[0].Drop, a.P.Jobs[1].Pick = []int{n, n}, []int{n, n} })
		put(func(a *Asked) { a.P.Jobs[0].Priority, a.P.Shipments[0].Priority = n, -n })
		put(func(a *Asked) { a.P.Jobs[1].Stop = api.Stop{Place: n, Service: n, Windows: spans(n, n, n, n)} })
		put(func(a *Asked) { a.P.Shipments[0].Amount = []int{n, -n} })
		put(func(a *Asked) { a.P.Shipments[0].Pickup.Place = n })
		put(func(a *Asked) { a.P.Shipments[1].Delivery.Service = n })
		put(func(a *Asked) { a.P.Vehicles[0].Breaks[0] = api.Break{Service: n, Windows: spans(n, most)} })
	}
	put(func(a *Asked) { a.P.Time.Cells = nil })
	put(func(a *Asked) { a.P.Dist.Cells = a.P.Dist.Cells[:7] })
	put(func(a *Asked) { a.P.Vehicles = nil })
	put(func(a *Asked) { a.P.Vehicles = make([]api.Vehicle, 9) })
	put(func(a *Asked) { a.P.Vehicles[0].Cap, a.P.Vehicles[1].Cap = nil, make([]int, 9) })
	put(func(a *Asked) { a.P.Vehicles[0].Breaks = make([]api.Break, 9) })
	put(func(a *Asked) { a.P.Jobs = nil })
	put(func(a *Asked) { a.P.Jobs = make([]api.Job, 3) })
	put(func(a *Asked) { a.P.Shipments = nil })
	put(func(a *Asked) { a.P.Shipments = make([]api.Shipment, 2) })
	put(func(a *Asked) { a.P = api.Problem{} })
	put(func(a *Asked) { a.P = api.Problem{Vehicles: make([]api.Vehicle, 1)} })
	put(func(a *Asked) { a.S.Routes = make([]api.Route, 5) })
	put(func(a *Asked) { a.S.Routes = append(a.S.Routes, a.S.Routes...) })
	r := rand.New(rand.NewSource(193))
	for range 400 {
		p := drawnProblem(r)
		l = append(l, copied(Asked{p, drawnRoutes(r, p), r.Intn(300), draws(r, 5)}))
	}
	return l
}

// all: both.
func all() []Asked { return append(questions(), strangers()...) }

// TestCallsEnd: no call panics, whatever it is handed.
func TestCallsEnd(t *testing.T) {
	for _, a := range all() {
		within(t, "a call", func() { a.tell() })
	}
}

// within: does it end in good time?
func within(t *testing.T, what string, call func()) {
	t.Helper()
	done := make(chan int)
	go func() {
		call()
		close(done)
	}()
	select {
	case <-done:
	case <-time.After(time.Minute):
		t.Fatalf("P1: %s: it doesn't end", what)
	}
}

// TestManyEnd: more visits, routes, tasks and draws than there may be: calls end in good time.
func TestManyEnd(t *testing.T) {
	for _, v := range list(job(0), pickup(0), delivery(0), pause(0), api.Visit{}) {
		long := slices.Repeat(list(v), 1000000)
		a := Asked{town(), routes(route(0, long...), route(1, long...)), 100, make([]int, 1000000)}
		within(t, "a long route", func() { a.tell() })
	}
	a := Asked{town(), routes(slices.Repeat([]api.Route{route(1, job(0)), route(0, job(1)), route(1)}, 30000)...), 100, nil}
	within(t, "many routes", func() { a.tell() })
	// No problem: so many tasks, all of which one vehicle could take.
	p := village([]api.Vehicle{car(0)}, 1)
	p.Vehicles[0].MaxTasks = math.MaxInt
	p.Jobs = slices.Repeat(p.Jobs, 2000)
	p.Shipments = slices.Repeat([]api.Shipment{{Pickup: stop(1), Delivery: stop(1), Priority: 1}}, 2000)
	within(t, "many tasks", func() { Asked{p, api.Solution{}, 100, nil}.tell() })
}

// TestNothingBeside: beside an error there is no score.
func TestNothingBeside(t *testing.T) {
	for _, a := range all() {
		if x := a.tell(); x.E != api.OK && x.Score != (api.Score{}) {
			t.Errorf("R3: %+v: Score(%v): %v, %d", a.P, a.S, x.Score, x.E)
		}
	}
}

// TestArgumentsStay: neither what is handed in nor its spare room is changed.
func TestArgumentsStay(t *testing.T) {
	for _, a := range all() {
		a = roomy(a)
		was := whole(a)
		a.tell()
		if !reflect.DeepEqual(was, whole(a)) {
			t.Fatalf("R6: %+v became %+v", was, whole(a))
		}
	}
}

// TestSpareRoomIsNone: what stands behind a list's end isn't of it.
func TestSpareRoomIsNone(t *testing.T) {
	for _, a := range questions() {
		if want, got := a.tell(), roomy(a).tell(); !want.equal(got) {
			t.Errorf("R6: %+v, with spare room %+v", want, got)
		}
	}
}

// TestNoListShares: each list of visits is memory of its own: written over one by one, spare room too, each keeps what was written last.
func TestNoListShares(t *testing.T) {
	for _, a := range questions() {
		s := roomy(a).tell().Improved.S
		for i, x := range s.Routes {
			for j := range x.Visits[:cap(x.Visits)] {
				x.Visits[:cap(x.Visits)][j].Item = i
			}
		}
		for i, x := range s.Routes {
			for _, v := range x.Visits[:cap(x.Visits)] {
				if v.Item != i {
					t.Fatalf("R6: %+v: routes %d and %d share memory", a, i, v.Item)
				}
			}
		}
	}
}

// TestAnswersAreNew: answers are the caller's: written over, spare room too, they change neither what was handed in nor another answer; and what is handed in, written over, changes no answer.
func TestAnswersAreNew(t *testing.T) {
	for _, a := range questions() {
		a = roomy(a)
		was := whole(a)
		first, second := a.tell(), a.tell()
		want := copied(first)
		scribble(reflect.ValueOf(&second).Elem())
		if !first.equal(want) {
			t.Fatalf("R6: %+v became %+v", want, first)
		}
		if !reflect.DeepEqual(was, whole(a)) {
			t.Fatalf("R6: what was handed in became %+v", whole(a))
		}
		if again := a.tell(); !again.equal(want) {
			t.Fatalf("R6: %+v, then %+v", want, again)
		}
		scribble(reflect.ValueOf(&a).Elem())
		if !first.equal(want) {
			t.Fatalf("R6: %+v became %+v", want, first)
		}
	}
}

// emptied: a copy in which lists without elements are nil, or are empty with room.
func emptied(v reflect.Value, none bool) reflect.Value {
	switch v.Kind() {
	case reflect.Struct:
		s := reflect.New(v.Type()).Elem()
		for i := range v.NumField() {
			s.Field(i).Set(emptied(v.Field(i), none))
		}
		return s
	case reflect.Slice:
		switch {
		case v.Len() == 0 && none:
			return reflect.Zero(v.Type())
		case v.Len() == 0:
			return reflect.MakeSlice(v.Type(), 0, 2)
		}
		l := reflect.MakeSlice(v.Type(), v.Len(), v.Len())
		for i := range v.Len() {
			l.Index(i).Set(emptied(v.Index(i), none))
		}
		return l
	}
	return v
}

// with: the question with empty lists as nil, or as empty ones.
func (a Asked) with(none bool) Asked {
	return emptied(reflect.ValueOf(a), none).Interface().(Asked)
}

// TestNilAndEmpty: lists without elements mean the same.
func TestNilAndEmpty(t *testing.T) {
	for _, a := range questions() {
		if want, got := a.with(true).tell(), a.with(false).tell(); !want.equal(got) {
			t.Errorf("R5: %+v of nil, %+v of empty lists", want, got)
		}
	}
}

// TestSameAgain: what was asked before changes no answer.
func TestSameAgain(t *testing.T) {
	l := questions()
	var want []Told
	for _, a := range l {
		want = append(want, a.tell())
	}
	for i := range l {
		i = len(l) - 1 - i
		if got := l[i].tell(); !got.equal(want[i]) {
			t.Errorf("R8: %+v, then %+v", want[i], got)
		}
	}
}

// TestAllAtOnce: calls of several goroutines on the same problems don't touch each other.
func TestAllAtOnce(t *testing.T) {
	l := questions()
	var want []Told
	for _, a := range l {
		want = append(want, a.tell())
	}
	var wait sync.WaitGroup
	for range 8 {
		wait.Go(func() {
			for i, a := range l {
				if got := a.tell(); !got.equal(want[i]) {
					t.Errorf("R8: %+v, then %+v", want[i], got)
				}
			}
		})
	}
	wait.Wait()
}
