package slack

import (
	"math"
	"reflect"
	"slices"
	"sync"
	"testing"
	"time"

	"haulier/api"
)

// junk: what stands in spare room: nothing that may be.
func junk(t reflect.Type) reflect.Value {
	v := reflect.New(t).Elem()
	switch t.Kind() {
	case reflect.Int:
		v.SetInt(-77)
	case reflect.Uint64:
		v.SetUint(1 << 63)
	case reflect.Struct:
		for i := range t.NumField() {
			v.Field(i).Set(junk(t.Field(i).Type))
		}
	}
	return v
}

// spread: a copy down to its last list, each of which gets so much spare room with junk in it; with its own spare room, if whole.
func spread(v reflect.Value, room int, whole bool) reflect.Value {
	switch v.Kind() {
	case reflect.Struct:
		s := reflect.New(v.Type()).Elem()
		for i := range v.NumField() {
			s.Field(i).Set(spread(v.Field(i), room, whole))
		}
		return s
	case reflect.Slice:
		n := v.Len()
		if whole {
			n = v.Cap()
		}
		if n+room == 0 {
			return v
		}
		v = v.Slice(0, n)
		l := reflect.MakeSlice(v.Type(), n+room, n+room)
		for i := range n + room {
			if i < n {
				l.Index(i).Set(spread(v.Index(i), room, whole))
			} else {
				l.Index(i).Set(junk(v.Type().Elem()))
			}
		}
		return l.Slice(0, n)
	}
	return v
}

// roomy: a copy with spare room in all lists.
func roomy[T any](x T) T { return spread(reflect.ValueOf(x), 3, false).Interface().(T) }

// whole: a copy with all that stands in spare room.
func whole[T any](x T) T { return spread(reflect.ValueOf(x), 0, true).Interface().(T) }

// copied: a copy without spare room.
func copied[T any](x T) T { return spread(reflect.ValueOf(x), 0, false).Interface().(T) }

// scribble: writes over all lists in it, spare room too, the inner ones first.
func scribble(v reflect.Value) {
	switch v.Kind() {
	case reflect.Struct:
		for i := range v.NumField() {
			scribble(v.Field(i))
		}
	case reflect.Slice:
		v = v.Slice(0, v.Cap())
		for i := range v.Len() {
			scribble(v.Index(i))
			v.Index(i).Set(junk(v.Type().Elem()))
		}
	}
}

// asked is a problem, a plan, and what is asked of it.
type asked struct {
	p     api.Problem
	x     api.Plan
	i, at int
}

// told is all that the calls answer.
type told struct {
	latest, spare []int
	end           int
	there         bool
}

func (a asked) tell() told {
	var x told
	x.latest, x.spare = Latest(a.p, a.x), Spare(a.p, a.x)
	x.end, x.there = Ends(a.p, a.x, a.i, a.at)
	return x
}

// equal: the same answers; lists without elements are the same as nil.
func (x told) equal(y told) bool {
	return slices.Equal(x.latest, y.latest) && slices.Equal(x.spare, y.spare) && x.end == y.end && x.there == y.there
}

// roomy: the question with spare room in all lists.
func (a asked) roomy() asked {
	a.p, a.x = roomy(a.p), roomy(a.x)
	return a
}

// questions: of plans of problems, and of none.
func questions(t *testing.T) []asked {
	p := town()
	x := planned(t, p, tour()...)
	l := []asked{{api.Problem{}, api.Plan{}, 0, 0}, {p, api.Plan{}, 0, 0}, {api.Problem{}, x, 0, 0}}
	for i := -1; i <= len(x.Steps); i++ {
		for _, at := range []int{-5, 0, 20, 21, 116, 904, 905, 1000, 1001} {
			l = append(l, asked{p, x, i, at})
		}
	}
	for k, d := range drawnPlans(143, 1500) {
		i := k % len(d.x.Steps)
		l = append(l, asked{d.p, d.x, i, d.x.Steps[i].Arrival + k%7})
	}
	return l
}

// strangers: what is no problem, or no plan of it.
func strangers(t *testing.T) []asked {
	const least, most = math.MinInt, math.MaxInt
	ends := []int{least, least + 1, -1 << 62, -1 << 32, -2, -1, 0, 1, 2, 3, 4, 5, 100, 1 << 32, 1 << 62, most - 1, most}
	whole := planned(t, town(), tour()...)
	var l []asked
	put := func(change func(p *api.Problem, x *api.Plan)) {
		p, x := town(), copied(whole)
		change(&p, &x)
		for _, i := range []int{0, 1, 5, 10} {
			for _, at := range []int{least, 0, 50, most} {
				l = append(l, asked{p, x, i, at})
			}
		}
	}
	for _, n := range ends {
		for _, m := range ends {
			l = append(l, asked{town(), whole, n, m})
		}
		for i := range whole.Steps {
			for k := api.AtJob; k <= api.AtEnd; k++ {
				put(func(p *api.Problem, x *api.Plan) { x.Steps[i].Visit = api.Visit{Kind: k, Item: n} })
			}
			put(func(p *api.Problem, x *api.Plan) { x.Steps[i].Visit.Kind = api.VisitKind(n) })
			put(func(p *api.Problem, x *api.Plan) { x.Steps[i].Place = n })
			put(func(p *api.Problem, x *api.Plan) { x.Steps[i].Service = n })
			put(func(p *api.Problem, x *api.Plan) { x.Steps[i].Arrival, x.Steps[i].Wait = n, n })
		}
		put(func(p *api.Problem, x *api.Plan) { x.Vehicle = n })
		put(func(p *api.Problem, x *api.Plan) { p.Dims = n })
		put(func(p *api.Problem, x *api.Plan) { p.Time.N = n })
		put(func(p *api.Problem, x *api.Plan) { p.Time.Cells[1], p.Time.Cells[6] = n, n })
		put(func(p *api.Problem, x *api.Plan) { p.Vehicles[0].Shift.To = n })
		put(func(p *api.Problem, x *api.Plan) { p.Vehicles[0].Shift.From = n })
		put(func(p *api.Problem, x *api.Plan) { p.Jobs[1].Stop.Windows = spans(n, n, n, n) })
		put(func(p *api.Problem, x *api.Plan) { p.Jobs[1].Stop.Windows = spans(n, 9, 8, n) })
		put(func(p *api.Problem, x *api.Plan) { p.Shipments[0].Pickup = api.Stop{Place: n, Service: n} })
		put(func(p *api.Problem, x *api.Plan) { p.Vehicles[0].Breaks[0] = rests(n, n, most) })
		put(func(p *api.Problem, x *api.Plan) { p.Vehicles[0].Breaks[1] = rests(n, 9, n, n, 8) })
	}
	put(func(p *api.Problem, x *api.Plan) { p.Time.Cells = nil })
	put(func(p *api.Problem, x *api.Plan) { p.Time.Cells = p.Time.Cells[:7] })
	put(func(p *api.Problem, x *api.Plan) { p.Jobs = nil })
	put(func(p *api.Problem, x *api.Plan) { p.Jobs = make([]api.Job, 3) })
	put(func(p *api.Problem, x *api.Plan) { p.Shipments = nil })
	put(func(p *api.Problem, x *api.Plan) { p.Shipments = make([]api.Shipment, 2) })
	put(func(p *api.Problem, x *api.Plan) { p.Vehicles[0].Breaks = nil })
	put(func(p *api.Problem, x *api.Plan) { p.Vehicles[0].Breaks = p.Vehicles[0].Breaks[:1] })
	put(func(p *api.Problem, x *api.Plan) { p.Vehicles[0].Breaks = make([]api.Break, 9) })
	put(func(p *api.Problem, x *api.Plan) { p.Vehicles = make([]api.Vehicle, 9) })
	put(func(p *api.Problem, x *api.Plan) { *p = api.Problem{} })
	put(func(p *api.Problem, x *api.Plan) { *p = api.Problem{Vehicles: make([]api.Vehicle, 1)} })
	put(func(p *api.Problem, x *api.Plan) { *x = api.Plan{Steps: make([]api.Step, 11)} })
	put(func(p *api.Problem, x *api.Plan) { slices.Reverse(x.Steps) })
	put(func(p *api.Problem, x *api.Plan) { x.Steps = x.Steps[3:] })
	put(func(p *api.Problem, x *api.Plan) { x.Steps = append(x.Steps, x.Steps...) })
	return l
}

// all: both.
func all(t *testing.T) []asked { return append(questions(t), strangers(t)...) }

// TestCallsEnd: no call panics, whatever it is handed.
func TestCallsEnd(t *testing.T) {
	for _, a := range all(t) {
		a.tell()
	}
}

// within: does it end in good time?
func within(t *testing.T, what string, call func()) {
	t.Helper()
	done := make(chan int)
	go func() {
		call()
		close(done)
	}()
	select {
	case <-done:
	case <-time.After(time.Minute):
		t.Fatalf("P1: %s: it doesn't end", what)
	}
}

// TestManyEnd: plans of more steps than there may be: calls end in good time.
func TestManyEnd(t *testing.T) {
	p := town()
	x := planned(t, p, tour()...)
	for _, s := range x.Steps {
		long := api.Plan{Steps: slices.Repeat([]api.Step{s}, 1000000)}
		within(t, "many steps", func() { asked{p, long, 0, math.MinInt}.tell() })
	}
}

// TestNothingBeside: beside false the end is 0.
func TestNothingBeside(t *testing.T) {
	for _, a := range all(t) {
		if x := a.tell(); !x.there && x.end != 0 {
			t.Fatalf("R3: %+v\n%+v: Ends(%d, %d): %d, false", a.p, a.x, a.i, a.at, x.end)
		}
	}
}

// TestArgumentsStay: neither what is handed in nor its spare room is changed.
func TestArgumentsStay(t *testing.T) {
	for _, a := range all(t) {
		a = a.roomy()
		p, x := whole(a.p), whole(a.x)
		a.tell()
		if !reflect.DeepEqual(p, whole(a.p)) || !reflect.DeepEqual(x, whole(a.x)) {
			t.Fatalf("R6: %+v, %+v became %+v, %+v", p, x, whole(a.p), whole(a.x))
		}
	}
}

// TestSpareRoomIsNone: what stands behind a list's end isn't of it.
func TestSpareRoomIsNone(t *testing.T) {
	for _, a := range questions(t) {
		if want, got := a.tell(), a.roomy().tell(); !want.equal(got) {
			t.Errorf("R6: %+v, with spare room %+v", want, got)
		}
	}
}

// TestAnswersAreNew: answers are the caller's: written over, spare room too, they change neither what was handed in nor another answer; and what is handed in, written over, changes no answer.
func TestAnswersAreNew(t *testing.T) {
	for _, a := range questions(t) {
		a = a.roomy()
		p, x := whole(a.p), whole(a.x)
		first, second := a.tell(), a.tell()
		want := told{slices.Clone(first.latest), slices.Clone(first.spare), first.end, first.there}
		scribble(reflect.ValueOf(second.latest))
		if !slices.Equal(second.spare, want.spare) {
			t.Fatalf("R6: Spare %v became %v", want.spare, second.spare)
		}
		scribble(reflect.ValueOf(second.spare))
		if !first.equal(want) {
			t.Fatalf("R6: %+v became %+v", want, first)
		}
		if !reflect.DeepEqual(p, whole(a.p)) || !reflect.DeepEqual(x, whole(a.x)) {
			t.Fatalf("R6: what was handed in became %+v, %+v", whole(a.p), whole(a.x))
		}
		if again := a.tell(); !again.equal(want) {
			t.Fatalf("R6: %+v, then %+v", want, again)
		}
		scribble(reflect.ValueOf(&a.p).Elem())
		scribble(reflect.ValueOf(&a.x).Elem())
		if !first.equal(want) {
			t.Fatalf("R6: %+v became %+v", want, first)
		}
	}
}

// emptied: a copy in which lists without elements are nil, or are empty with room.
func emptied(v reflect.Value, none bool) reflect.Value {
	switch v.Kind() {
	case reflect.Struct:
		s := reflect.New(v.Type()).Elem()
		for i := range v.NumField() {
			s.Field(i).Set(emptied(v.Field(i), none))
		}
		return s
	case reflect.Slice:
		switch {
		case v.Len() == 0 && none:
			return reflect.Zero(v.Type())
		case v.Len() == 0:
			return reflect.MakeSlice(v.Type(), 0, 2)
		}
		l := reflect.MakeSlice(v.Type(), v.Len(), v.Len())
		for i := range v.Len() {
			l.Index(i).Set(emptied(v.Index(i), none))
		}
		return l
	}
	return v
}

// with: the question with empty lists as nil, or as empty ones.
func (a asked) with(none bool) asked {
	a.p = emptied(reflect.ValueOf(a.p), none).Interface().(api.Problem)
	a.x = emptied(reflect.ValueOf(a.x), none).Interface().(api.Plan)
	return a
}

// TestNilAndEmpty: lists without elements mean the same.
func TestNilAndEmpty(t *testing.T) {
	for _, a := range all(t) {
		if want, got := a.with(true).tell(), a.with(false).tell(); !want.equal(got) {
			t.Errorf("R5: %+v of nil, %+v of empty lists", want, got)
		}
	}
}

// TestSameAgain: what was asked before changes no answer.
func TestSameAgain(t *testing.T) {
	l := all(t)
	var want []told
	for _, a := range l {
		want = append(want, a.tell())
	}
	for i := range l {
		i = len(l) - 1 - i
		if got := l[i].tell(); !got.equal(want[i]) {
			t.Errorf("R8: %+v, then %+v", want[i], got)
		}
	}
}

// TestAllAtOnce: calls of several goroutines on the same plans don't touch each other.
func TestAllAtOnce(t *testing.T) {
	l := questions(t)
	var want []told
	for _, a := range l {
		want = append(want, a.tell())
	}
	var wait sync.WaitGroup
	for range 8 {
		wait.Go(func() {
			for i, a := range l {
				if got := a.tell(); !got.equal(want[i]) {
					t.Errorf("R8: %+v, then %+v", want[i], got)
				}
			}
		})
	}
	wait.Wait()
}
