package judge_test

import (
	"math"
	"math/rand"
	"reflect"
	"slices"
	"sync"
	"testing"
	"time"

	"haulier/api"
	"haulier/judge"
	"haulier/seed"
)

// junk: what stands in spare room: nothing that may be.
func junk(t reflect.Type) reflect.Value {
	v := reflect.New(t).Elem()
	switch t.Kind() {
	case reflect.Int:
		v.SetInt(-77)
	case reflect.Uint64:
		v.SetUint(1 << 63)
	case reflect.Struct:
		for i := range t.NumField() {
			v.Field(i).Set(junk(t.Field(i).Type))
		}
	}
	return v
}

// spread: a copy down to its last list, each of which gets so much spare room with junk in it; with its own spare room, if whole.
func spread(v reflect.Value, room int, whole bool) reflect.Value {
	switch v.Kind() {
	case reflect.Struct:
		s := reflect.New(v.Type()).Elem()
		for i := range v.NumField() {
			s.Field(i).Set(spread(v.Field(i), room, whole))
		}
		return s
	case reflect.Slice:
		n := v.Len()
		if whole {
			n = v.Cap()
		}
		if n+room == 0 {
			return v
		}
		v = v.Slice(0, n)
		l := reflect.MakeSlice(v.Type(), n+room, n+room)
		for i := range n + room {
			if i < n {
				l.Index(i).Set(spread(v.Index(i), room, whole))
			} else {
				l.Index(i).Set(junk(v.Type().Elem()))
			}
		}
		return l.Slice(0, n)
	}
	return v
}

// roomy: a copy with spare room in all lists.
func roomy[T any](x T) T { return spread(reflect.ValueOf(x), 3, false).Interface().(T) }

// whole: a copy with all that stands in spare room.
func whole[T any](x T) T { return spread(reflect.ValueOf(x), 0, true).Interface().(T) }

// copied: a copy without spare room.
func copied[T any](x T) T { return spread(reflect.ValueOf(x), 0, false).Interface().(T) }

// each: asks for every list in it, the inner ones first.
func each(v reflect.Value, ask func(l reflect.Value)) {
	switch v.Kind() {
	case reflect.Struct:
		for i := range v.NumField() {
			each(v.Field(i), ask)
		}
	case reflect.Slice:
		for i := range v.Len() {
			each(v.Index(i), ask)
		}
		ask(v)
	}
}

// scribble: writes over all lists in it, spare room too, the inner ones first.
func scribble(v reflect.Value) {
	each(v, func(l reflect.Value) {
		l = l.Slice(0, l.Cap())
		for i := range l.Len() {
			l.Index(i).Set(junk(l.Type().Elem()))
		}
	})
}

// Asked is a problem, a solution, two plans, and what is asked of them. (Its fields have great letters, so that they can be copied by reflection.)
type Asked struct {
	P    api.Problem
	S    api.Solution
	A, B api.Plan
}

// Told is all that the calls answer.
type Told struct {
	At                  int
	Check, InPlans, Sum api.Errno
	Audit               api.Errno
	Same                int
	Plans               []api.Plan
	Sums                api.Sums
}

func (a Asked) tell() Told {
	var x Told
	x.At, x.Check = judge.Check(a.P, a.S)
	x.Plans, x.InPlans = judge.Plans(a.P, a.S)
	x.Sums, x.Sum = judge.Sums(a.P, a.S)
	x.Audit = judge.Audit(a.P, a.A)
	if judge.Same(a.A, a.B) {
		x.Same = 1
	}
	return x
}

// questions: of problems, with solutions and plans, right ones and wrong ones.
func questions() []Asked {
	r := rand.New(rand.NewSource(207))
	p, l := town(), planned4()
	all := []Asked{
		{p, api.Solution{}, api.Plan{}, api.Plan{}},
		{p, routes(four()...), l[0], l[0]},
		{p, routes(four()[2:]...), l[3], l[2]},
		{p, seed.Greedy(p), l[1], steps(1, job(0))},
		{p, routes(route(0)), steps(1), steps(1)},
		{line(), routes(route(0, job(0)), route(0, job(0))), steps(0, job(0)), steps(0)},
		{api.Problem{Time: square(1, 0), Dist: square(1, 0)}, api.Solution{}, api.Plan{}, steps(0)},
	}
	for range 300 {
		p := drawnProblem(r)
		s := drawnRight(r, p)
		a := Asked{P: p, S: s}
		if plans, _ := judge.Plans(p, s); len(plans) > 0 {
			a.A, a.B = plans[0], plans[len(plans)-1]
		}
		all = append(all, copied(a))
		a.S = spoilt(r, s)
		a.A = full(a.B)
		l := numbers(&a.A)
		*l[r.Intn(len(l))]++
		all = append(all, copied(a))
	}
	return all
}

// strangers: what is no problem, or figures that no plan has.
func strangers() []Asked {
	const least, most = math.MinInt, math.MaxInt
	ends := []int{least, least + 1, -1 << 62, -1 << 32, -2, -1, 0, 1, 2, 3, 4, 5, 100, 1 << 32, 1 << 62, most - 1, most}
	base := Asked{town(), routes(four()...), planned4()[0], planned4()[3]}
	var l []Asked
	put := func(change func(a *Asked)) {
		a := copied(base)
		change(&a)
		l = append(l, a)
	}
	for _, n := range ends {
		for i := range base.S.Routes {
			put(func(a *Asked) { a.S.Routes[i].Vehicle = n })
			put(func(a *Asked) { a.S.Routes[i].Visits[0].Item = n })
			put(func(a *Asked) { a.S.Routes[i].Visits[0].Kind = api.VisitKind(n) })
		}
		for i := range numbers(&base.A) {
			put(func(a *Asked) { *numbers(&a.A)[i] = n })
		}
		for i := range base.A.Steps {
			put(func(a *Asked) { a.A.Steps[i].Visit.Kind = api.VisitKind(n) })
			put(func(a *Asked) { a.A.Steps[i].Load = []int{n, n} })
		}
		for kind := range api.VisitKind(8) {
			put(func(a *Asked) { a.A.Steps[1].Visit = api.Visit{Kind: kind, Item: n} })
			put(func(a *Asked) { a.S.Routes[1].Visits[0] = api.Visit{Kind: kind, Item: n} })
		}
		put(func(a *Asked) { a.P.Dims = n })
		put(func(a *Asked) { a.P.Time.N = n })
		put(func(a *Asked) { a.P.Dist.N = n })
		put(func(a *Asked) { a.P.Time.N, a.P.Dist.N = n, n })
		put(func(a *Asked) { a.P.Time.Cells[2], a.P.Dist.Cells[11] = n, n })
		put(func(a *Asked) { a.P.Vehicles[0].Start = n })
		put(func(a *Asked) { a.P.Vehicles[0].End = n })
		put(func(a *Asked) { a.P.Vehicles[0].Shift.From = n })
		put(func(a *Asked) { a.P.Vehicles[0].Shift.To = n })
		put(func(a *Asked) { a.P.Vehicles[1].MaxTasks = n })
		put(func(a *Asked) {
			a.P.Vehicles[0].Fixed, a.P.Vehicles[0].PerTime, a.P.Vehicles[0].PerDist = n, n, n
		})
		put(func(a *Asked) { a.P.Vehicles[0].Cap = []int{n, n} })
		put(func(a *Asked) { a.P.Vehicles[0].Skills = uint64(n) })
		put(func(a *Asked) { a.P.Vehicles[0].Breaks[0] = api.Break{Service: n, Windows: spans(n, most)} })
		put(func(a *Asked) { a.P.Jobs[0].Drop, a.P.Jobs[1].Pick = []int{n, n}, []int{n, n} })
		put(func(a *Asked) { a.P.Jobs[0].Priority, a.P.Shipments[0].Priority = n, -n })
		put(func(a *Asked) { a.P.Jobs[1].Stop = api.Stop{Place: n, Service: n, Windows: spans(n, n, n, n)} })
		put(func(a *Asked) { a.P.Shipments[0].Amount = []int{n, -n} })
		put(func(a *Asked) { a.P.Shipments[1].Pickup.Place, a.P.Shipments[1].Delivery.Service = n, n })
	}
	put(func(a *Asked) { a.P.Time.Cells = nil })
	put(func(a *Asked) { a.P.Dist.Cells = a.P.Dist.Cells[:7] })
	put(func(a *Asked) { a.P.Vehicles = nil })
	put(func(a *Asked) { a.P.Vehicles = make([]api.Vehicle, 9) })
	put(func(a *Asked) { a.P.Vehicles[0].Cap, a.P.Vehicles[1].Cap = nil, make([]int, 9) })
	put(func(a *Asked) { a.P.Vehicles[0].Breaks = make([]api.Break, 9) })
	put(func(a *Asked) { a.P.Jobs = nil })
	put(func(a *Asked) { a.P.Jobs = make([]api.Job, 3) })
	put(func(a *Asked) { a.P.Shipments = make([]api.Shipment, 2) })
	put(func(a *Asked) { a.P = api.Problem{} })
	put(func(a *Asked) { a.P = api.Problem{Vehicles: make([]api.Vehicle, 4)} })
	put(func(a *Asked) { a.S.Routes = make([]api.Route, 5) })
	put(func(a *Asked) { a.A = api.Plan{Steps: make([]api.Step, 5)} })
	return l
}

// all: both.
func all() []Asked { return append(questions(), strangers()...) }

// within: does it end in good time?
func within(t *testing.T, what string, call func()) {
	t.Helper()
	done := make(chan int)
	go func() {
		call()
		close(done)
	}()
	select {
	case <-done:
	case <-time.After(time.Minute):
		t.Fatalf("P1: %s: it doesn't end", what)
	}
}

// TestCallsEnd: no call panics, whatever it is handed.
func TestCallsEnd(t *testing.T) {
	within(t, "the calls", func() {
		for _, a := range all() {
			a.tell()
		}
	})
}

// TestManyEnd: more visits, routes and steps than there may be: calls end in good time.
func TestManyEnd(t *testing.T) {
	for _, v := range list(job(0), pickup(0), delivery(0), pause(0), start(), api.Visit{}) {
		long := slices.Repeat(list(v), 300000)
		a := Asked{P: town(), S: routes(route(0, long...), route(1, long...)), A: steps(0, long...), B: steps(0, long...)}
		within(t, "a long route", func() { a.tell() })
	}
	a := Asked{P: town(), S: routes(slices.Repeat([]api.Route{route(1, job(0)), route(0, job(1)), route(1)}, 300000)...)}
	within(t, "many routes", func() { a.tell() })
	// No problem: so many vehicles, jobs and breaks, all of which are in order but for their number.
	p := line()
	p.Vehicles, p.Jobs = slices.Repeat(p.Vehicles, 2000), slices.Repeat(p.Jobs, 2000)
	var s api.Solution
	for i := range p.Vehicles {
		s.Routes = append(s.Routes, route(i, job(i)))
	}
	within(t, "many right routes", func() { Asked{P: p, S: s}.tell() })
	p = line()
	var pauses []api.Visit
	for i := range 100000 {
		p.Vehicles[0].Breaks = append(p.Vehicles[0].Breaks, api.Break{Windows: always()})
		pauses = append(pauses, pause(i))
	}
	within(t, "many breaks", func() { Asked{P: p, S: routes(route(0, job(0))), A: steps(0, pauses...)}.tell() })
}

// TestNothingBeside: beside an error there are neither plans nor sums, and of a right solution Check tells no route.
func TestNothingBeside(t *testing.T) {
	wrong := 0
	for _, a := range all() {
		x := a.tell()
		if x.Check != x.InPlans || x.Check != x.Sum {
			t.Errorf("P20.2: %+v: %d, %d, %d", a, x.Check, x.InPlans, x.Sum)
		}
		if x.Check == api.OK {
			if x.At != -1 || len(x.Plans) != len(a.S.Routes) {
				t.Errorf("P20.1: %+v: place %d, %d plans", a, x.At, len(x.Plans))
			}
			continue
		}
		wrong++
		if x.At < 0 || x.At >= len(a.S.Routes) {
			t.Errorf("P20.1: %+v: place %d", a, x.At)
		}
		if len(x.Plans) > 0 || x.Sums != (api.Sums{}) {
			t.Errorf("R3: %+v: %+v, %+v beside %d", a, x.Plans, x.Sums, x.Check)
		}
	}
	if wrong < 100 {
		t.Errorf("only %d of these solutions are wrong", wrong)
	}
}

// TestArgumentsStay: neither what is handed in nor its spare room is changed.
func TestArgumentsStay(t *testing.T) {
	for _, a := range all() {
		a = roomy(a)
		was := whole(a)
		a.tell()
		if !reflect.DeepEqual(was, whole(a)) {
			t.Fatalf("R6: %+v became %+v", was, whole(a))
		}
	}
}

// TestSpareRoomIsNone: what stands behind a list's end isn't of it.
func TestSpareRoomIsNone(t *testing.T) {
	for _, a := range questions() {
		if want, got := a.tell(), roomy(a).tell(); !alike(want, got) {
			t.Errorf("R6: %+v, with spare room %+v", want, got)
		}
	}
}

// TestNoListShares: each list of an answer is memory of its own: loads written over one by one, spare room too, keep what was written last; and so do steps.
func TestNoListShares(t *testing.T) {
	for _, a := range questions() {
		got := roomy(a).tell().Plans
		var loads [][]int
		for i, x := range got {
			for k := range x.Steps {
				loads = append(loads, x.Steps[k].Load)
			}
			for k := range x.Steps[:cap(x.Steps)] {
				x.Steps[:cap(x.Steps)][k].Place = i
			}
		}
		for i, x := range got {
			for _, step := range x.Steps[:cap(x.Steps)] {
				if step.Place != i {
					t.Fatalf("R6: %+v: plans %d and %d share steps", a, i, step.Place)
				}
			}
		}
		for i, l := range loads {
			for d := range l[:cap(l)] {
				l[:cap(l)][d] = i
			}
		}
		for i, l := range loads {
			for _, n := range l[:cap(l)] {
				if n != i {
					t.Fatalf("R6: %+v: loads %d and %d share memory", a, i, n)
				}
			}
		}
	}
}

// TestAnswersAreNew: answers are the caller's: written over, spare room too, they change neither what was handed in nor another answer; and what is handed in, written over, changes no answer.
func TestAnswersAreNew(t *testing.T) {
	for _, a := range questions() {
		a = roomy(a)
		was := whole(a)
		first, second := a.tell(), a.tell()
		want := copied(first)
		scribble(reflect.ValueOf(&second).Elem())
		if !alike(first, want) {
			t.Fatalf("R6: %+v became %+v", want, first)
		}
		if !reflect.DeepEqual(was, whole(a)) {
			t.Fatalf("R6: what was handed in became %+v", whole(a))
		}
		if again := a.tell(); !alike(again, want) {
			t.Fatalf("R6: %+v, then %+v", want, again)
		}
		scribble(reflect.ValueOf(&a).Elem())
		if !alike(first, want) {
			t.Fatalf("R6: %+v became %+v", want, first)
		}
	}
}

// bare: a copy in which lists without elements are nil.
func bare(a Asked) Asked {
	a = copied(a)
	each(reflect.ValueOf(&a).Elem(), func(l reflect.Value) {
		if l.Len() == 0 {
			l.SetZero()
		}
	})
	return a
}

// TestNilAndEmpty: lists without elements mean the same.
func TestNilAndEmpty(t *testing.T) {
	for _, a := range questions() {
		if want, got := bare(a).tell(), full(a).tell(); !alike(want, got) {
			t.Errorf("R5: %+v of nil, %+v of empty lists", want, got)
		}
	}
}

// TestSameAgain: what was asked before changes no answer.
func TestSameAgain(t *testing.T) {
	l := questions()
	var want []Told
	for _, a := range l {
		want = append(want, a.tell())
	}
	for i := range l {
		i = len(l) - 1 - i
		if got := l[i].tell(); !alike(got, want[i]) {
			t.Errorf("R8: %+v, then %+v", want[i], got)
		}
	}
}

// TestAllAtOnce: calls of several goroutines on the same problems don't touch each other.
func TestAllAtOnce(t *testing.T) {
	l := questions()
	var want []Told
	for _, a := range l {
		want = append(want, a.tell())
	}
	var wait sync.WaitGroup
	for range 8 {
		wait.Go(func() {
			for i, a := range l {
				if got := a.tell(); !alike(got, want[i]) {
					t.Errorf("R8: %+v, then %+v", want[i], got)
				}
			}
		})
	}
	wait.Wait()
}
