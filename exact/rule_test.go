package exact_test

import (
	"math"
	"math/rand"
	"reflect"
	"slices"
	"sync"
	"testing"
	"time"

	"haulier/api"
	"haulier/exact"
	"haulier/model"
)

// junk: what stands in spare room: nothing that may be.
func junk(t reflect.Type) reflect.Value {
	v := reflect.New(t).Elem()
	switch t.Kind() {
	case reflect.Int:
		v.SetInt(-77)
	case reflect.Uint64:
		v.SetUint(1 << 63)
	case reflect.Struct:
		for i := range t.NumField() {
			v.Field(i).Set(junk(t.Field(i).Type))
		}
	}
	return v
}

// spread: a copy down to its last list, each of which gets so much spare room with junk in it; with its own spare room, if whole.
func spread(v reflect.Value, room int, whole bool) reflect.Value {
	switch v.Kind() {
	case reflect.Struct:
		s := reflect.New(v.Type()).Elem()
		for i := range v.NumField() {
			s.Field(i).Set(spread(v.Field(i), room, whole))
		}
		return s
	case reflect.Slice:
		n := v.Len()
		if whole {
			n = v.Cap()
		}
		if n+room == 0 {
			return v
		}
		v = v.Slice(0, n)
		l := reflect.MakeSlice(v.Type(), n+room, n+room)
		for i := range n + room {
			if i < n {
				l.Index(i).Set(spread(v.Index(i), room, whole))
			} else {
				l.Index(i).Set(junk(v.Type().Elem()))
			}
		}
		return l.Slice(0, n)
	}
	return v
}

// roomy: a copy with spare room in all lists.
func roomy[T any](x T) T { return spread(reflect.ValueOf(x), 3, false).Interface().(T) }

// whole: a copy with all that stands in spare room.
func whole[T any](x T) T { return spread(reflect.ValueOf(x), 0, true).Interface().(T) }

// copied: a copy without spare room.
func copied[T any](x T) T { return spread(reflect.ValueOf(x), 0, false).Interface().(T) }

// scribble: writes over all lists in it, spare room too, the inner ones first.
func scribble(v reflect.Value) {
	switch v.Kind() {
	case reflect.Struct:
		for i := range v.NumField() {
			scribble(v.Field(i))
		}
	case reflect.Slice:
		v = v.Slice(0, v.Cap())
		for i := range v.Len() {
			scribble(v.Index(i))
			v.Index(i).Set(junk(v.Type().Elem()))
		}
	}
}

// Asked is a problem. (Its field has a great letter, so that it can be copied by reflection.)
type Asked struct{ P api.Problem }

// Told is all that the calls answer.
type Told struct {
	Small bool
	S     api.Solution
	OK    bool
}

func (a Asked) tell() Told {
	var x Told
	x.Small = exact.Small(a.P)
	x.S, x.OK = exact.Best(a.P)
	return x
}

// equal: the same answers; lists without elements are the same as nil.
func (x Told) equal(y Told) bool { return x.Small == y.Small && x.OK == y.OK && same(x.S, y.S) }

// questions: problems, small or not.
func questions() []Asked {
	r := rand.New(rand.NewSource(196))
	l := []Asked{{town()}, {village(1, 2, 3)}, {village()}, {sized(0, 3, 1)}, {sized(2, 1, 1)}, {sized(1, 9, 0)}, {sized(1, 0, 4)}, {split()}}
	for range 300 {
		l = append(l, Asked{drawnProblem(r, r.Intn(7))})
	}
	for range 10 {
		l = append(l, Asked{drawnProblem(r, 7+r.Intn(4))})
	}
	return l
}

// strangers: what is no problem.
func strangers() []Asked {
	const least, most = math.MinInt, math.MaxInt
	ends := []int{least, least + 1, -1 << 62, -1 << 32, -2, -1, 0, 1, 2, 3, 4, 5, 100, 1 << 32, 1 << 62, most - 1, most}
	var l []Asked
	put := func(change func(p *api.Problem)) {
		a := copied(Asked{town()})
		change(&a.P)
		l = append(l, a)
	}
	for _, n := range ends {
		put(func(p *api.Problem) { p.Dims = n })
		put(func(p *api.Problem) { p.Time.N = n })
		put(func(p *api.Problem) { p.Dist.N = n })
		put(func(p *api.Problem) { p.Time.N, p.Dist.N = n, n })
		put(func(p *api.Problem) { p.Time.Cells[1], p.Dist.Cells[6] = n, n })
		put(func(p *api.Problem) { p.Vehicles[0].Start = n })
		put(func(p *api.Problem) { p.Vehicles[0].End = n })
		put(func(p *api.Problem) { p.Vehicles[0].Shift.From = n })
		put(func(p *api.Problem) { p.Vehicles[0].Shift.To = n })
		put(func(p *api.Problem) { p.Vehicles[0].MaxTasks = n })
		put(func(p *api.Problem) { p.Vehicles[0].Fixed, p.Vehicles[0].PerTime, p.Vehicles[0].PerDist = n, n, n })
		put(func(p *api.Problem) { p.Vehicles[0].Cap = []int{n, n} })
		put(func(p *api.Problem) { p.Vehicles[0].Skills = uint64(n) })
		put(func(p *api.Problem) { p.Vehicles[0].Breaks[0] = api.Break{Service: n, Windows: spans(n, most)} })
		put(func(p *api.Problem) { p.Jobs[0].Drop, p.Jobs[1].Pick = []int{n, n}, []int{n, n} })
		put(func(p *api.Problem) { p.Jobs[0].Priority, p.Shipments[0].Priority = n, -n })
		put(func(p *api.Problem) { p.Jobs[1].Stop = api.Stop{Place: n, Service: n, Windows: spans(n, n, n, n)} })
		put(func(p *api.Problem) { p.Shipments[0].Amount = []int{n, -n} })
		put(func(p *api.Problem) { p.Shipments[0].Pickup.Place = n })
		put(func(p *api.Problem) { p.Shipments[1].Delivery.Service = n })
	}
	put(func(p *api.Problem) { p.Time.Cells = nil })
	put(func(p *api.Problem) { p.Dist.Cells = p.Dist.Cells[:7] })
	put(func(p *api.Problem) { p.Vehicles = nil })
	put(func(p *api.Problem) { p.Vehicles = make([]api.Vehicle, 9) })
	put(func(p *api.Problem) { p.Vehicles[0].Cap = nil })
	put(func(p *api.Problem) { p.Vehicles[0].Cap = make([]int, 9) })
	put(func(p *api.Problem) { p.Vehicles[0].Breaks = make([]api.Break, 9) })
	put(func(p *api.Problem) { p.Jobs = nil })
	put(func(p *api.Problem) { p.Jobs = make([]api.Job, 3) })
	put(func(p *api.Problem) { p.Shipments = nil })
	put(func(p *api.Problem) { p.Shipments = make([]api.Shipment, 2) })
	put(func(p *api.Problem) { *p = api.Problem{} })
	put(func(p *api.Problem) { *p = api.Problem{Vehicles: make([]api.Vehicle, 1)} })
	return l
}

// all: both.
func all() []Asked { return append(questions(), strangers()...) }

// TestCallsEnd: no call panics, whatever it is handed.
func TestCallsEnd(t *testing.T) {
	for _, a := range all() {
		within(t, "a call", func() { a.tell() })
	}
}

// within: does it end in good time?
func within(t *testing.T, what string, call func()) {
	t.Helper()
	done := make(chan int)
	go func() {
		call()
		close(done)
	}()
	select {
	case <-done:
	case <-time.After(time.Minute):
		t.Fatalf("P1: %s: it doesn't end", what)
	}
}

// TestManyEnd: more tasks, breaks, windows and vehicles than there may be: calls end in good time.
func TestManyEnd(t *testing.T) {
	p := sized(1, 1, 1)
	p.Vehicles[0].MaxTasks = math.MaxInt
	p.Jobs, p.Shipments = slices.Repeat(p.Jobs, 1000000), slices.Repeat(p.Shipments, 1000000)
	within(t, "many tasks", func() { Asked{p}.tell() })
	p = sized(1, 4, 2)
	p.Vehicles[0].Breaks = slices.Repeat([]api.Break{{Windows: always()}}, 1000000)
	within(t, "many breaks", func() { Asked{p}.tell() })
	p = sized(1, 4, 2)
	p.Jobs[0].Stop.Windows = slices.Repeat(always(), 1000000)
	within(t, "many windows", func() { Asked{p}.tell() })
	p = sized(1, 4, 2)
	p.Vehicles = slices.Repeat(p.Vehicles, 1000000)
	within(t, "many vehicles", func() { Asked{p}.tell() })
}

// opposed: eight jobs among which the more dear a way is the quicker it is, so that of two beginnings seldom one serves for the other.
func opposed() api.Problem {
	r := rand.New(rand.NewSource(197))
	p := api.Problem{Time: drawnMatrix(r, 9, false), Dist: drawnMatrix(r, 9, false), Vehicles: cars(1)}
	for i := range 81 {
		if i/9 != i%9 {
			p.Dist.Cells[i] = 1 + r.Intn(90000)
			p.Time.Cells[i] = 100000 - p.Dist.Cells[i]
		}
	}
	p.Vehicles[0].PerTime, p.Vehicles[0].PerDist = 0, 1
	for i := range 8 {
		p.Jobs = append(p.Jobs, api.Job{Stop: stop(i + 1), Priority: 1})
	}
	return p
}

// TestOpposedEnds: the hardest problems end in good time too, and their best is the best.
func TestOpposedEnds(t *testing.T) {
	p := opposed()
	var c tally
	within(t, "quick or cheap", func() { c.asGood(t, p) })
	p.Vehicles[0].Breaks = slices.Repeat([]api.Break{{Windows: always()}}, 2)
	within(t, "quick or cheap, with breaks", func() { exact.Best(p) })
}

// TestNothingBeside: beside false there is no solution; what is no problem, or isn't small, has none.
func TestNothingBeside(t *testing.T) {
	for _, a := range all() {
		x := a.tell()
		if !x.OK && x.S.Routes != nil {
			t.Errorf("R3: %+v: %v, false", a.P, x.S)
		}
		if want := model.Check(a.P) == api.OK && len(a.P.Vehicles) < 2 && len(a.P.Jobs)+2*len(a.P.Shipments) < 9; x.OK != want {
			t.Errorf("P19.2: %+v: %v, want %v", a.P, x.OK, want)
		}
	}
}

// TestArgumentsStay: neither what is handed in nor its spare room is changed.
func TestArgumentsStay(t *testing.T) {
	for _, a := range all() {
		a = roomy(a)
		was := whole(a)
		a.tell()
		if !reflect.DeepEqual(was, whole(a)) {
			t.Fatalf("R6: %+v became %+v", was, whole(a))
		}
	}
}

// TestSpareRoomIsNone: what stands behind a list's end isn't of it.
func TestSpareRoomIsNone(t *testing.T) {
	for _, a := range questions() {
		if want, got := a.tell(), roomy(a).tell(); !want.equal(got) {
			t.Errorf("R6: %+v, with spare room %+v", want, got)
		}
	}
}

// TestAnswersAreNew: answers are the caller's: written over, spare room too, they change neither what was handed in nor another answer; and what is handed in, written over, changes no answer.
func TestAnswersAreNew(t *testing.T) {
	for _, a := range questions() {
		a = roomy(a)
		was := whole(a)
		first, second := a.tell(), a.tell()
		want := copied(first)
		scribble(reflect.ValueOf(&second).Elem())
		if !first.equal(want) {
			t.Fatalf("R6: %+v became %+v", want, first)
		}
		if !reflect.DeepEqual(was, whole(a)) {
			t.Fatalf("R6: what was handed in became %+v", whole(a))
		}
		if again := a.tell(); !again.equal(want) {
			t.Fatalf("R6: %+v, then %+v", want, again)
		}
		scribble(reflect.ValueOf(&a).Elem())
		if !first.equal(want) {
			t.Fatalf("R6: %+v became %+v", want, first)
		}
	}
}

// emptied: a copy in which lists without elements are nil, or are empty with room.
func emptied(v reflect.Value, none bool) reflect.Value {
	switch v.Kind() {
	case reflect.Struct:
		s := reflect.New(v.Type()).Elem()
		for i := range v.NumField() {
			s.Field(i).Set(emptied(v.Field(i), none))
		}
		return s
	case reflect.Slice:
		switch {
		case v.Len() == 0 && none:
			return reflect.Zero(v.Type())
		case v.Len() == 0:
			return reflect.MakeSlice(v.Type(), 0, 2)
		}
		l := reflect.MakeSlice(v.Type(), v.Len(), v.Len())
		for i := range v.Len() {
			l.Index(i).Set(emptied(v.Index(i), none))
		}
		return l
	}
	return v
}

// with: the question with empty lists as nil, or as empty ones.
func (a Asked) with(none bool) Asked {
	return emptied(reflect.ValueOf(a), none).Interface().(Asked)
}

// TestNilAndEmpty: lists without elements mean the same.
func TestNilAndEmpty(t *testing.T) {
	for _, a := range questions() {
		if want, got := a.with(true).tell(), a.with(false).tell(); !want.equal(got) {
			t.Errorf("R5: %+v of nil, %+v of empty lists", want, got)
		}
	}
}

// TestSameAgain: what was asked before changes no answer.
func TestSameAgain(t *testing.T) {
	l := questions()
	var want []Told
	for _, a := range l {
		want = append(want, a.tell())
	}
	for i := range l {
		i = len(l) - 1 - i
		if got := l[i].tell(); !got.equal(want[i]) {
			t.Errorf("R8: %+v, then %+v", want[i], got)
		}
	}
}

// TestAllAtOnce: calls of several goroutines on the same problems don't touch each other.
func TestAllAtOnce(t *testing.T) {
	l := questions()
	var want []Told
	for _, a := range l {
		want = append(want, a.tell())
	}
	var wait sync.WaitGroup
	for range 8 {
		wait.Go(func() {
			for i, a := range l {
				if got := a.tell(); !got.equal(want[i]) {
					t.Errorf("R8: %+v, then %+v", want[i], got)
				}
			}
		})
	}
	wait.Wait()
}
