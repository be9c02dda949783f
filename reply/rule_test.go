package reply_test

import (
	"math"
	"reflect"
	"slices"
	"strings"
	"sync"
	"testing"
	"time"

	"haulier/api"
	"haulier/json"
	"haulier/reply"
	"haulier/show"
)

// junkValue: what stands in spare room: nothing that may be.
func junkValue(t reflect.Type) reflect.Value {
	v := reflect.New(t).Elem()
	switch t.Kind() {
	case reflect.Int:
		v.SetInt(-77)
	case reflect.Bool:
		v.SetBool(true)
	case reflect.String:
		v.SetString("junk")
	case reflect.Struct:
		for i := range t.NumField() {
			v.Field(i).Set(junkValue(t.Field(i).Type))
		}
	}
	return v
}

// spread: a copy down to its last list, each of which gets so much spare room with junk in it; with its own spare room, if whole.
func spread(v reflect.Value, room int, whole bool) reflect.Value {
	switch v.Kind() {
	case reflect.Struct:
		s := reflect.New(v.Type()).Elem()
		for i := range v.NumField() {
			s.Field(i).Set(spread(v.Field(i), room, whole))
		}
		return s
	case reflect.Slice:
		n := v.Len()
		if whole {
			n = v.Cap()
		}
		if n+room == 0 {
			return v
		}
		v = v.Slice(0, n)
		l := reflect.MakeSlice(v.Type(), n+room, n+room)
		for i := range n + room {
			if i < n {
				l.Index(i).Set(spread(v.Index(i), room, whole))
			} else {
				l.Index(i).Set(junkValue(v.Type().Elem()))
			}
		}
		return l.Slice(0, n)
	}
	return v
}

// roomy: a copy with spare room in all lists.
func roomy[T any](x T) T { return spread(reflect.ValueOf(x), 3, false).Interface().(T) }

// whole: a copy with all that stands in spare room.
func whole[T any](x T) T { return spread(reflect.ValueOf(x), 0, true).Interface().(T) }

// copied: a copy without spare room.
func copied[T any](x T) T { return spread(reflect.ValueOf(x), 0, false).Interface().(T) }

// each: asks for every list in it, the inner ones first.
func each(v reflect.Value, ask func(l reflect.Value)) {
	switch v.Kind() {
	case reflect.Struct:
		for i := range v.NumField() {
			each(v.Field(i), ask)
		}
	case reflect.Slice:
		for i := range v.Len() {
			each(v.Index(i), ask)
		}
		ask(v)
	}
}

// scribble: writes over all lists in it, spare room too, the inner ones first.
func scribble(v reflect.Value) {
	each(v, func(l reflect.Value) {
		l = l.Slice(0, l.Cap())
		for i := range l.Len() {
			l.Index(i).Set(junkValue(l.Type().Elem()))
		}
	})
}

// bare: a copy in which lists without elements are nil.
func bare[T any](x T) T {
	x = copied(x)
	each(reflect.ValueOf(&x).Elem(), func(l reflect.Value) {
		if l.Len() == 0 {
			l.SetZero()
		}
	})
	return x
}

// Asked is an answer and a tree, handed in to one call each. (Its fields have great letters, so that they can be copied by reflection.)
type Asked struct {
	R api.Reply
	T api.Tree
}

// Told is what the calls answer.
type Told struct {
	T  api.Tree
	R  api.Reply
	Ok bool
}

func (a Asked) tell() Told {
	x := Told{T: reply.Tree(a.R)}
	x.R, x.Ok = reply.Read(a.T)
	return x
}

// questions: answers and trees, right ones and wrong ones.
func questions(t *testing.T) []Asked {
	var l []Asked
	answers := append(halves(), replies()[:100]...)
	for _, r := range answers {
		l = append(l, copied(Asked{r, reply.Tree(r)}))
	}
	for i, v := range trees(t) {
		if i < 200 {
			l = append(l, copied(Asked{answers[i%len(answers)], v}))
		}
	}
	return l
}

// strangers: values that are no tree.
func strangers() []api.Tree {
	var l []api.Tree
	for _, r := range []api.Reply{tour(), faulty(7, 3, "x"), {}} {
		base := reply.Tree(r)
		change := func(i int, made func(v *api.Value)) {
			x := slices.Clone(base)
			x[i].Names, x[i].Kids = slices.Clone(x[i].Names), slices.Clone(x[i].Kids)
			made(&x[i])
			l = append(l, x)
		}
		for i, v := range base {
			for k := range v.Kids {
				for _, n := range append(ends(), len(base)-1, len(base), i) {
					if n != v.Kids[k] {
						change(i, func(v *api.Value) { v.Kids[k] = n })
					}
				}
			}
			for kind := range api.JSONKind(9) {
				if kind != v.Kind {
					change(i, func(v *api.Value) { v.Kind = kind })
				}
			}
			if len(v.Names) > 0 {
				change(i, func(v *api.Value) { v.Names = nil })
				change(i, func(v *api.Value) { v.Names = append(v.Names, v.Names...) })
			}
			if len(v.Kids) > 0 {
				change(i, func(v *api.Value) { v.Kids = nil })
				change(i, func(v *api.Value) { v.Kids = append(v.Kids, v.Kids...) })
			}
			change(i, func(v *api.Value) { v.Kids = append(v.Kids, 0, len(base), -1) })
		}
		for i := 1; i < len(base); i++ {
			l = append(l, base[:i], base[i:])
		}
	}
	// Each value is a kid of all, of itself too.
	for n := 1; n < 5; n++ {
		for kind := range api.JSONKind(7) {
			for _, text := range []string{"", "ok", "error"} {
				var x api.Tree
				for range n {
					x = append(x, api.Value{Kind: kind, Text: text, Kids: []int{n - 1, 0, n / 2, n - 1, n - 1}, Names: []string{"status", "optimal", "summary", "routes", "unassigned"}})
				}
				l = append(l, x)
			}
		}
	}
	return l
}

// within: does it end in good time?
func within(t *testing.T, what string, call func()) {
	t.Helper()
	done := make(chan int)
	go func() {
		call()
		close(done)
	}()
	select {
	case <-done:
	case <-time.After(time.Minute):
		t.Fatalf("P1: %s: it doesn't end", what)
	}
}

// TestCallsEnd: no call panics, whatever it is handed; and of what is no tree nothing is read.
func TestCallsEnd(t *testing.T) {
	within(t, "the calls", func() {
		for _, a := range questions(t) {
			a.tell()
		}
		for _, v := range strangers() {
			if r, ok := reply.Read(v); ok {
				t.Errorf("P22.1: %+v is read: %+v", v, r)
			}
		}
	})
}

// TestManyEnd: great answers and great trees, and values that are kids of many, end in good time.
func TestManyEnd(t *testing.T) {
	plan := tour().Plans[0]
	r := api.Reply{Plans: slices.Repeat([]api.Plan{plan}, 1000), Left: slices.Repeat([]api.Task{{Ship: true, Item: 7}}, 30000)}
	r.Plans = append(r.Plans, api.Plan{Steps: slices.Repeat(plan.Steps, 1000)}, api.Plan{Steps: []api.Step{{Visit: visit(api.AtEnd, 0), Load: make([]int, 100000)}}})
	within(t, "a great answer", func() {
		if got, ok := reply.Read(reply.Tree(r)); !ok || !reflect.DeepEqual(bare(got), bare(r)) {
			t.Errorf("P22.2: a great answer isn't read again: %t", ok)
		}
	})
	within(t, "values one in another", func() {
		deep := api.Tree{{Kind: api.Null}}
		for i := range 1000000 {
			deep = append(deep, api.Value{Kind: api.List, Kids: []int{i}})
		}
		reply.Read(deep)
	})
	within(t, "kids of many", func() {
		const many = 100000
		l := api.Tree{{Kind: api.Number}}
		for i := range 5 {
			l = append(l, api.Value{Kind: api.List, Kids: slices.Repeat([]int{i}, many)})
		}
		n := len(l)
		l = append(l, api.Value{Kind: api.String, Text: "ok"}, api.Value{Kind: api.Object, Names: []string{"status", "optimal", "summary", "routes", "unassigned"}, Kids: []int{n, 0, 5, 5, 5}})
		reply.Read(l)
	})
}

// TestZeroBeside: beside false there is nothing.
func TestZeroBeside(t *testing.T) {
	for _, v := range append(trees(t), strangers()...) {
		if r, ok := reply.Read(v); !ok && !alike(r, api.Reply{}) {
			t.Errorf("R3: %+v: %+v beside false", v, r)
		}
	}
}

// TestArgumentsStay: neither what is handed in nor its spare room is changed.
func TestArgumentsStay(t *testing.T) {
	for _, a := range questions(t) {
		a = roomy(a)
		was := whole(a)
		a.tell()
		if !reflect.DeepEqual(was, whole(a)) {
			t.Fatalf("R6: %+v became %+v", was, whole(a))
		}
	}
}

// TestSpareRoomIsNone: what stands behind a list's end isn't of it.
func TestSpareRoomIsNone(t *testing.T) {
	for _, a := range questions(t) {
		if want, got := a.tell(), roomy(a).tell(); !alike(want, got) {
			t.Errorf("R6: %+v, with spare room %+v", want, got)
		}
	}
}

// keepApart: lists, written over one by one, spare room too, keep what was written last.
func keepApart[T comparable](t *testing.T, lists [][]T, mark func(i int) T) {
	t.Helper()
	for i, l := range lists {
		l = l[:cap(l)]
		for k := range l {
			l[k] = mark(i)
		}
	}
	for i, l := range lists {
		if slices.ContainsFunc(l[:cap(l)], func(x T) bool { return x != mark(i) }) {
			t.Fatal("R6: lists of an answer share memory")
		}
	}
}

// TestNoListShares: each list of an answer is memory of its own.
func TestNoListShares(t *testing.T) {
	for _, a := range questions(t) {
		x := roomy(a).tell()
		var kids, loads [][]int
		var names [][]string
		for _, v := range x.T {
			kids, names = append(kids, v.Kids), append(names, v.Names)
		}
		var places [][]*int
		for i := range x.R.Plans {
			var l []*int
			for k := range x.R.Plans[i].Steps {
				loads = append(loads, x.R.Plans[i].Steps[k].Load)
				l = append(l, &x.R.Plans[i].Steps[k].Place)
			}
			places = append(places, l)
		}
		keepApart(t, append(kids, loads...), func(i int) int { return i })
		keepApart(t, names, func(i int) string { return strings.Repeat("n", i%1000) })
		for i, l := range places {
			for _, p := range l {
				*p = i
			}
		}
		for i, l := range places {
			for _, p := range l {
				if *p != i {
					t.Fatal("R6: plans share steps")
				}
			}
		}
	}
}

// TestAnswersAreNew: answers are the caller's: written over, spare room too, they change neither what was handed in nor another answer; and what is handed in, written over, changes no answer.
func TestAnswersAreNew(t *testing.T) {
	for _, a := range questions(t) {
		a = roomy(a)
		was := whole(a)
		first, second := a.tell(), a.tell()
		want := copied(first)
		scribble(reflect.ValueOf(&second).Elem())
		if !alike(first, want) {
			t.Fatalf("R6: %+v became %+v", want, first)
		}
		if !reflect.DeepEqual(was, whole(a)) {
			t.Fatalf("R6: what was handed in became %+v", whole(a))
		}
		if again := a.tell(); !alike(again, want) {
			t.Fatalf("R6: %+v, then %+v", want, again)
		}
		scribble(reflect.ValueOf(&a).Elem())
		if !alike(first, want) {
			t.Fatalf("R6: %+v became %+v", want, first)
		}
	}
}

// TestNilAndEmpty: lists without elements mean the same.
func TestNilAndEmpty(t *testing.T) {
	for _, a := range questions(t) {
		if want, got := bare(a).tell(), full(a).tell(); !alike(want, got) {
			t.Errorf("R5: %+v of nil, %+v of empty lists", want, got)
		}
	}
}

// TestSameAgain: what was asked before changes no answer; and calls of several goroutines on the same arguments don't touch each other.
func TestSameAgain(t *testing.T) {
	l := questions(t)
	var want []Told
	for _, a := range l {
		want = append(want, full(a.tell()))
	}
	for i := range l {
		i = len(l) - 1 - i
		if got := full(l[i].tell()); !reflect.DeepEqual(got, want[i]) {
			t.Errorf("R8: %+v, then %+v", want[i], got)
		}
	}
	var wait sync.WaitGroup
	for range 4 {
		wait.Go(func() {
			for i, a := range l {
				if got := full(a.tell()); !reflect.DeepEqual(got, want[i]) {
					t.Errorf("R8: %+v, then %+v", want[i], got)
				}
			}
		})
	}
	wait.Wait()
}

func FuzzRead(f *testing.F) {
	for _, s := range []string{tourText, zeroText, `{"status":"error","code":21,"at":3,"path":""}`, `{"status":"error","code":0,"at":3,"path":""}`, "[]"} {
		f.Add([]byte(s))
	}
	f.Fuzz(func(t *testing.T, b []byte) {
		v, _, e := json.Parse(b)
		if e != api.OK {
			return
		}
		r, ok := reply.Read(v)
		if want := anAnswer(v); ok != want {
			t.Errorf("P22.1: %s is read: %t, want %t", b, ok, want)
		}
		if ok && !show.Same(reply.Tree(r), v) {
			t.Errorf("P22.1: %s is read as %+v", b, r)
		}
	})
}

// TestFit: numbers that are too great for a text are read again all the same.
func TestFit(t *testing.T) {
	r := faulty(math.MaxInt, math.MinInt, "\xff")
	if got, ok := reply.Read(reply.Tree(r)); !ok || got.Fault != r.Fault {
		t.Errorf("P22.2: %+v became %+v, %t", r, got, ok)
	}
}
