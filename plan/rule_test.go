package plan

import (
	"math"
	"math/rand"
	"reflect"
	"slices"
	"sync"
	"testing"
	"time"

	"haulier/api"
)

// junk: what stands in spare room: nothing that may be.
func junk(t reflect.Type) reflect.Value {
	v := reflect.New(t).Elem()
	switch t.Kind() {
	case reflect.Int:
		v.SetInt(-77)
	case reflect.Uint64:
		v.SetUint(1 << 63)
	case reflect.Struct:
		for i := range t.NumField() {
			v.Field(i).Set(junk(t.Field(i).Type))
		}
	}
	return v
}

// spread: a copy down to its last list, each of which gets so much spare room with junk in it; with its own spare room, if whole.
func spread(v reflect.Value, room int, whole bool) reflect.Value {
	switch v.Kind() {
	case reflect.Struct:
		s := reflect.New(v.Type()).Elem()
		for i := range v.NumField() {
			s.Field(i).Set(spread(v.Field(i), room, whole))
		}
		return s
	case reflect.Slice:
		n := v.Len()
		if whole {
			n = v.Cap()
		}
		if n+room == 0 {
			return v
		}
		v = v.Slice(0, n)
		l := reflect.MakeSlice(v.Type(), n+room, n+room)
		for i := range n + room {
			if i < n {
				l.Index(i).Set(spread(v.Index(i), room, whole))
			} else {
				l.Index(i).Set(junk(v.Type().Elem()))
			}
		}
		return l.Slice(0, n)
	}
	return v
}

// roomy: a copy with spare room in all lists.
func roomy[T any](x T) T { return spread(reflect.ValueOf(x), 3, false).Interface().(T) }

// whole: a copy with all that stands in spare room.
func whole[T any](x T) T { return spread(reflect.ValueOf(x), 0, true).Interface().(T) }

// copied: a copy without spare room.
func copied[T any](x T) T { return spread(reflect.ValueOf(x), 0, false).Interface().(T) }

// scribble: writes over all lists in it, spare room too, the inner ones first.
func scribble(v reflect.Value) {
	switch v.Kind() {
	case reflect.Struct:
		for i := range v.NumField() {
			scribble(v.Field(i))
		}
	case reflect.Slice:
		v = v.Slice(0, v.Cap())
		for i := range v.Len() {
			scribble(v.Index(i))
			v.Index(i).Set(junk(v.Type().Elem()))
		}
	}
}

// asked is a problem, and what is asked of it.
type asked struct {
	p       api.Problem
	vehicle int
	visits  []api.Visit
	at      []int
}

// told is all that the calls answer.
type told struct {
	of    api.Plan
	ofE   api.Errno
	loads [][]int
	fit   api.Plan
	fitE  api.Errno
	set   []api.Visit
}

func (a asked) tell() told {
	var x told
	x.of, x.ofE = Of(a.p, a.vehicle, a.visits)
	x.loads = Loads(a.p, a.visits)
	x.fit, x.fitE = Fit(a.p, a.vehicle, a.visits)
	x.set = Set(a.visits, a.at)
	return x
}

// equal: the same answers; lists without elements are the same as nil.
func (x told) equal(y told) bool {
	return same(x.of, y.of) && x.ofE == y.ofE && same(x.fit, y.fit) && x.fitE == y.fitE && slices.Equal(x.set, y.set) && slices.EqualFunc(x.loads, y.loads, slices.Equal[[]int])
}

// questions: of problems, with right lists and wrong ones.
func questions() []asked {
	r := rand.New(rand.NewSource(18))
	var l []asked
	for _, c := range wrongs() {
		for _, w := range c {
			a := asked{town(), 0, tour0(), []int{1, 4}}
			w.spoil(&a.p, &a.vehicle, &a.visits)
			l = append(l, a)
		}
	}
	for range 300 {
		p := drawnProblem(r)
		route := drawnRoute(r, p)
		at := drawnPlaces(r, len(p.Vehicles[0].Breaks), len(route))
		l = append(l, asked{p, 0, route, at}, asked{p, 0, Set(route, at), nil})
		l = append(l, asked{p, r.Intn(len(p.Vehicles) + 1), spoilt(r, route), drawnPlaces(r, 2, len(route)-min(1, len(route)))})
	}
	l = append(l, asked{town(), 0, tour0(), []int{0, 9}}, asked{town(), 0, slices.DeleteFunc(tour0(), isBreak), []int{2, 2}})
	p, route := street(5, rests(0, 40, 40), rests(3, 0, 1000))
	punctual(p)
	return append(l, asked{p, 0, route, []int{2, 5}}, asked{p, 0, nil, nil}, asked{api.Problem{}, 0, nil, nil})
}

// strangers: what is no problem, or asks what isn't there.
func strangers() []asked {
	const least, most = math.MinInt, math.MaxInt
	ends := []int{least, least + 1, -1 << 62, -1 << 32, -2, -1, 0, 1, 2, 3, 4, 5, 100, 1 << 32, 1 << 62, most - 1, most}
	var l []asked
	for _, a := range []asked{{town(), 0, tour0(), []int{1, 2}}, {town(), 0, slices.DeleteFunc(tour0(), isBreak), []int{3, 3}}} {
		for _, n := range ends {
			b := a
			b.vehicle = n
			l = append(l, b)
			for _, k := range append(kinds(), api.AtJob, api.AtPickup, api.AtDelivery, api.AtBreak) {
				b = a
				b.visits = append(list(api.Visit{Kind: k, Item: n}), a.visits...)
				l = append(l, b)
				b.visits = append(slices.Clone(a.visits), api.Visit{Kind: k, Item: n})
				l = append(l, b)
			}
			for _, m := range ends {
				b = a
				b.at = []int{n, m}
				l = append(l, b)
			}
			for _, change := range []func(p *api.Problem){
				func(p *api.Problem) { p.Dims = n },
				func(p *api.Problem) { p.Time.N = n },
				func(p *api.Problem) { p.Dist.N = n },
				func(p *api.Problem) { p.Time.N, p.Dist.N = n, n },
				func(p *api.Problem) { p.Time.Cells[1] = n },
				func(p *api.Problem) { p.Dist.Cells[1] = n },
				func(p *api.Problem) { p.Time.Cells[5], p.Dist.Cells[10] = n, n },
				func(p *api.Problem) { p.Vehicles[0].Start = n },
				func(p *api.Problem) { p.Vehicles[0].End = n },
				func(p *api.Problem) { p.Vehicles[0].Shift.From = n },
				func(p *api.Problem) { p.Vehicles[0].Shift.To = n },
				func(p *api.Problem) { p.Vehicles[0].MaxTasks = n },
				func(p *api.Problem) {
					p.Vehicles[0].Fixed, p.Vehicles[0].PerTime, p.Vehicles[0].PerDist = n, n, n
				},
				func(p *api.Problem) { p.Vehicles[0].Cap = []int{n, n} },
				func(p *api.Problem) { p.Jobs[0].Drop = []int{n, n} },
				func(p *api.Problem) { p.Jobs[0].Pick = []int{n, n} },
				func(p *api.Problem) { p.Shipments[0].Amount = []int{n, -n} },
				func(p *api.Problem) { p.Jobs[1].Stop = api.Stop{Place: n, Service: n, Windows: spans(n, n, n, n)} },
				func(p *api.Problem) { p.Shipments[0].Pickup.Place = n },
				func(p *api.Problem) { p.Shipments[0].Delivery.Service = n },
				func(p *api.Problem) { p.Vehicles[0].Breaks[0] = rests(n, n, most) },
				func(p *api.Problem) { p.Vehicles[0].Breaks[1] = rests(n, 9, n, n, 8) },
			} {
				b = a
				b.p = town()
				change(&b.p)
				l = append(l, b)
			}
		}
		for _, change := range []func(p *api.Problem){
			func(p *api.Problem) { p.Time.Cells = nil },
			func(p *api.Problem) { p.Dist.Cells = p.Dist.Cells[:7] },
			func(p *api.Problem) { p.Vehicles[0].Cap = nil },
			func(p *api.Problem) { p.Vehicles[0].Cap = make([]int, 9) },
			func(p *api.Problem) { p.Jobs = make([]api.Job, 3) },
			func(p *api.Problem) { p.Jobs[0].Drop = nil },
			func(p *api.Problem) { p.Jobs[0].Pick = make([]int, 9) },
			func(p *api.Problem) { p.Shipments = make([]api.Shipment, 2) },
			func(p *api.Problem) { p.Jobs[1].Stop.Windows = nil },
			func(p *api.Problem) { p.Vehicles[0].Breaks[0].Windows = nil },
			func(p *api.Problem) { p.Vehicles = make([]api.Vehicle, 9) },
			func(p *api.Problem) { p.Vehicles[0].Breaks = make([]api.Break, 9) },
			func(p *api.Problem) { *p = api.Problem{} },
			func(p *api.Problem) { *p = api.Problem{Vehicles: make([]api.Vehicle, 1)} },
		} {
			b := a
			b.p = town()
			change(&b.p)
			l = append(l, b)
		}
	}
	return l
}

// TestCallsEnd: no call panics, whatever it is handed.
func TestCallsEnd(t *testing.T) {
	for _, a := range append(questions(), strangers()...) {
		a.tell()
	}
}

// within: does it end in good time?
func within(t *testing.T, what string, call func()) {
	t.Helper()
	done := make(chan int)
	go func() {
		call()
		close(done)
	}()
	select {
	case <-done:
	case <-time.After(time.Minute):
		t.Fatalf("P1: %s: it doesn't end", what)
	}
}

// TestManyEnd: more breaks and visits than there may be: calls end in good time, though no place of the breaks is in time.
func TestManyEnd(t *testing.T) {
	for _, c := range [][2]int{{12, 300}, {24, 40}, {30, 2}, {3000, 3}, {3000, 2}, {100000, 1}, {100000, 0}, {0, 100000}, {1, 100000}} {
		p, _ := street(1)
		car := &p.Vehicles[0]
		car.MaxTasks, car.Shift.To, car.Start, car.End = 1<<62, c[0]-1, 1, 1
		car.Breaks = make([]api.Break, c[1])
		for i := range car.Breaks {
			car.Breaks[i] = rests(0, 0, 1<<40)
		}
		p.Jobs = slices.Repeat(p.Jobs[:1], c[0])
		var l []api.Visit
		for i := range p.Jobs {
			p.Jobs[i].Stop = api.Stop{Place: 1, Service: 1, Windows: spans(0, 1<<40)}
			l = append(l, job(i))
		}
		within(t, "many breaks", func() { Fit(p, 0, l) })
		within(t, "many breaks", func() { Of(p, 0, Set(l, make([]int, c[1]))) })
		within(t, "many breaks", func() { Loads(p, l) })
	}
	for _, v := range list(job(0), pickup(0), delivery(0), pause(0), start()) {
		within(t, "a long list", func() { asked{town(), 0, slices.Repeat(list(v), 1000000), nil}.tell() })
	}
	within(t, "many places", func() { Set(nil, make([]int, 1000000)) })
}

// TestSetOfAnyPlaces: numbers that fall or that are too great: each visit stands once, in its order, and each break.
func TestSetOfAnyPlaces(t *testing.T) {
	visits := list(job(0), job(1), job(2))
	for _, at := range [][]int{{-1}, {4}, {3, 0}, {2, 1}, {-5, 99}, {99, -5}, {math.MaxInt, math.MinInt}, {math.MinInt, math.MaxInt}, {1, 0, 2, 1, 3}} {
		var tasks []api.Visit
		breaks := 0
		for _, v := range Set(visits, at) {
			if v == pause(breaks) {
				breaks++
			} else {
				tasks = append(tasks, v)
			}
		}
		if breaks != len(at) || !slices.Equal(tasks, visits) {
			t.Errorf("Set(%v, %v): %v", visits, at, Set(visits, at))
		}
	}
}

// TestArgumentsStay: neither what is handed in nor its spare room is changed.
func TestArgumentsStay(t *testing.T) {
	for _, a := range append(questions(), strangers()...) {
		p, visits, at := roomy(a.p), roomy(a.visits), roomy(a.at)
		p0, visits0, at0 := whole(p), whole(visits), whole(at)
		asked{p, a.vehicle, visits, at}.tell()
		if !reflect.DeepEqual(p0, whole(p)) || !reflect.DeepEqual(visits0, whole(visits)) || !reflect.DeepEqual(at0, whole(at)) {
			t.Fatalf("R6: %+v, %v, %v became %+v, %v, %v", p0, visits0, at0, whole(p), whole(visits), whole(at))
		}
	}
}

// TestSpareRoomIsNone: what stands behind a list's end isn't of it.
func TestSpareRoomIsNone(t *testing.T) {
	for _, a := range questions() {
		b := asked{roomy(a.p), a.vehicle, roomy(a.visits), roomy(a.at)}
		if want, got := a.tell(), b.tell(); !want.equal(got) {
			t.Errorf("R6: %+v, with spare room %+v", want, got)
		}
	}
}

// amounts: all lists of amounts of an answer.
func (x told) amounts() [][]int {
	l := slices.Clone(x.loads)
	for _, s := range slices.Concat(x.of.Steps, x.fit.Steps) {
		l = append(l, s.Load)
	}
	return l
}

// TestNoListShares: each list of amounts is memory of its own: written over one by one, spare room too, each keeps what was written last.
func TestNoListShares(t *testing.T) {
	for _, a := range questions() {
		all := a.tell().amounts()
		for i, l := range all {
			l = l[:cap(l)]
			for j := range l {
				l[j] = i
			}
		}
		for i, l := range all {
			l = l[:cap(l)]
			for j := range l {
				if l[j] != i {
					t.Fatalf("R6: %v: lists %d and %d share memory", a.visits, i, l[j])
				}
			}
		}
	}
}

// TestAnswersAreNew: answers are the caller's: written over, spare room too, they change neither what was handed in nor another answer; and what is handed in, written over, changes no answer.
func TestAnswersAreNew(t *testing.T) {
	for _, a := range questions() {
		a = asked{roomy(a.p), a.vehicle, roomy(a.visits), roomy(a.at)}
		p0, visits0, at0 := whole(a.p), whole(a.visits), whole(a.at)
		first, second := a.tell(), a.tell()
		want := told{copied(first.of), first.ofE, copied(first.loads), copied(first.fit), first.fitE, copied(first.set)}
		for _, x := range []any{&second.of, &second.loads, &second.fit, &second.set} {
			scribble(reflect.ValueOf(x).Elem())
		}
		if !first.equal(want) {
			t.Fatalf("R6: %+v became %+v", want, first)
		}
		if !reflect.DeepEqual(p0, whole(a.p)) || !reflect.DeepEqual(visits0, whole(a.visits)) || !reflect.DeepEqual(at0, whole(a.at)) {
			t.Fatalf("R6: what was handed in became %+v, %v, %v", whole(a.p), whole(a.visits), whole(a.at))
		}
		if again := a.tell(); !again.equal(want) {
			t.Fatalf("R6: %+v, then %+v", want, again)
		}
		for _, x := range []any{&a.p, &a.visits, &a.at} {
			scribble(reflect.ValueOf(x).Elem())
		}
		if !first.equal(want) {
			t.Fatalf("R6: %+v became %+v", want, first)
		}
	}
}

// TestSetIsNew: the list is new memory though no break is set in.
func TestSetIsNew(t *testing.T) {
	for _, at := range [][]int{nil, {}, {0}, {1}, {2}} {
		visits := roomy(list(job(0), job(1)))
		got := Set(visits, at)
		scribble(reflect.ValueOf(got))
		if !slices.Equal(visits, list(job(0), job(1))) {
			t.Errorf("R6: Set(.., %v) shares the visits", at)
		}
	}
}

// emptied: a copy in which lists without elements are nil, or are empty with room.
func emptied(v reflect.Value, none bool) reflect.Value {
	switch v.Kind() {
	case reflect.Struct:
		s := reflect.New(v.Type()).Elem()
		for i := range v.NumField() {
			s.Field(i).Set(emptied(v.Field(i), none))
		}
		return s
	case reflect.Slice:
		switch {
		case v.Len() == 0 && none:
			return reflect.Zero(v.Type())
		case v.Len() == 0:
			return reflect.MakeSlice(v.Type(), 0, 2)
		}
		l := reflect.MakeSlice(v.Type(), v.Len(), v.Len())
		for i := range v.Len() {
			l.Index(i).Set(emptied(v.Index(i), none))
		}
		return l
	}
	return v
}

// with: the question with empty lists as nil, or as empty ones.
func (a asked) with(none bool) asked {
	p := emptied(reflect.ValueOf(a.p), none).Interface().(api.Problem)
	visits := emptied(reflect.ValueOf(a.visits), none).Interface().([]api.Visit)
	at := emptied(reflect.ValueOf(a.at), none).Interface().([]int)
	return asked{p, a.vehicle, visits, at}
}

// TestNilAndEmpty: lists without elements mean the same.
func TestNilAndEmpty(t *testing.T) {
	for _, a := range append(questions(), strangers()...) {
		if want, got := a.with(true).tell(), a.with(false).tell(); !want.equal(got) {
			t.Errorf("R5: %+v of nil, %+v of empty lists", want, got)
		}
	}
}

// TestSameAgain: what was asked before changes no answer.
func TestSameAgain(t *testing.T) {
	all := append(questions(), strangers()...)
	var want []told
	for _, a := range all {
		want = append(want, a.tell())
	}
	for i := range all {
		i = len(all) - 1 - i
		if got := all[i].tell(); !got.equal(want[i]) {
			t.Errorf("R8: %+v, then %+v", want[i], got)
		}
	}
}

// TestAllAtOnce: calls of several goroutines on the same problems don't touch each other.
func TestAllAtOnce(t *testing.T) {
	all := questions()
	var want []told
	for _, a := range all {
		want = append(want, a.tell())
	}
	var wait sync.WaitGroup
	for range 8 {
		wait.Go(func() {
			for i, a := range all {
				if got := a.tell(); !got.equal(want[i]) {
					t.Errorf("R8: %+v, then %+v", want[i], got)
				}
			}
		})
	}
	wait.Wait()
}

// TestRight: of each plan that is told for drawn routes, each visit begins in a window, what is aboard is within the capacity, and breaks are taken, asked of the plan itself.
func TestRight(t *testing.T) {
	r := rand.New(rand.NewSource(19))
	right := 0
	for range 20000 {
		p := drawnProblem(r)
		x, e := Fit(p, 0, drawnRoute(r, p))
		if e != api.OK {
			continue
		}
		right++
		car, breaks := p.Vehicles[0], 0
		for i, s := range x.Steps {
			for d := range s.Load {
				if s.Load[d] < 0 || s.Load[d] > car.Cap[d] {
					t.Fatalf("P5: aboard %v of %v: %+v", s.Load, car.Cap, x)
				}
			}
			if i == 0 || i == len(x.Steps)-1 {
				continue
			}
			stop := stopAt(p, car, s.Visit, s.Place)
			if at, there := sooner(stop.Windows, s.Arrival+s.Wait); !there || at != s.Arrival+s.Wait || s.Wait < 0 {
				t.Fatalf("P5: step %d begins outside of %v: %+v", i, stop.Windows, x)
			}
			if s.Visit.Kind == api.AtBreak {
				breaks++
			}
		}
		if last := x.Steps[len(x.Steps)-1]; breaks != len(car.Breaks) || last.Arrival > car.Shift.To || len(last.Load) != p.Dims {
			t.Fatalf("P5: %+v of %+v", x, car)
		}
	}
	if right < 3000 {
		t.Errorf("only %d plans", right)
	}
}
