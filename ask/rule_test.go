package ask_test

import (
	"math"
	"math/rand"
	"reflect"
	"slices"
	"sync"
	"testing"
	"time"

	"haulier/api"
	"haulier/ask"
	"haulier/json"
	"haulier/model"
)

// junkValue: what stands in spare room: nothing that may be.
func junkValue(t reflect.Type) reflect.Value {
	v := reflect.New(t).Elem()
	switch t.Kind() {
	case reflect.Int:
		v.SetInt(-77)
	case reflect.Uint64:
		v.SetUint(1 << 63)
	case reflect.String:
		v.SetString("junk")
	case reflect.Struct:
		for i := range t.NumField() {
			v.Field(i).Set(junkValue(t.Field(i).Type))
		}
	}
	return v
}

// spread: a copy down to its last list, each of which gets so much spare room with junk in it; with its own spare room, if whole.
func spread(v reflect.Value, room int, whole bool) reflect.Value {
	switch v.Kind() {
	case reflect.Struct:
		s := reflect.New(v.Type()).Elem()
		for i := range v.NumField() {
			s.Field(i).Set(spread(v.Field(i), room, whole))
		}
		return s
	case reflect.Slice:
		n := v.Len()
		if whole {
			n = v.Cap()
		}
		if n+room == 0 {
			return v
		}
		v = v.Slice(0, n)
		l := reflect.MakeSlice(v.Type(), n+room, n+room)
		for i := range n + room {
			if i < n {
				l.Index(i).Set(spread(v.Index(i), room, whole))
			} else {
				l.Index(i).Set(junkValue(v.Type().Elem()))
			}
		}
		return l.Slice(0, n)
	}
	return v
}

// roomy: a copy with spare room in all lists.
func roomy[T any](x T) T { return spread(reflect.ValueOf(x), 3, false).Interface().(T) }

// whole: a copy with all that stands in spare room.
func whole[T any](x T) T { return spread(reflect.ValueOf(x), 0, true).Interface().(T) }

// copied: a copy without spare room.
func copied[T any](x T) T { return spread(reflect.ValueOf(x), 0, false).Interface().(T) }

// each: asks for every list in it, the inner ones first.
func each(v reflect.Value, ask func(l reflect.Value)) {
	switch v.Kind() {
	case reflect.Struct:
		for i := range v.NumField() {
			each(v.Field(i), ask)
		}
	case reflect.Slice:
		for i := range v.Len() {
			each(v.Index(i), ask)
		}
		ask(v)
	}
}

// scribble: writes over all lists in it, spare room too, the inner ones first.
func scribble(v reflect.Value) {
	each(v, func(l reflect.Value) {
		l = l.Slice(0, l.Cap())
		for i := range l.Len() {
			l.Index(i).Set(junkValue(l.Type().Elem()))
		}
	})
}

// Told is what the call answers.
type Told struct {
	P api.Problem
	F api.Fault
}

func tell(v api.Tree) Told {
	p, f := ask.Problem(v)
	return Told{p, f}
}

// requests: trees of requests, right ones and wrong ones.
func requests(t *testing.T) []api.Tree {
	r := rand.New(rand.NewSource(213))
	l := []api.Tree{nil, {}}
	for _, v := range []any{town(), lake(), plain(1), turned(town()), obj{}, list{}, nil, true, 7, "x"} {
		l = append(l, tree(t, text(v)))
	}
	for range 100 {
		var v any = drawn(r)
		l = append(l, tree(t, text(v)))
		for range 3 {
			v = spoilt(r, v)
		}
		l = append(l, tree(t, text(v)))
	}
	return l
}

// strangers: values that are no tree.
func strangers(t *testing.T) []api.Tree {
	ends := []int{math.MinInt, -1 << 62, -1 << 32, -2, -1, 0, 1, 2, 3, 5, 8, 100, 1 << 31, 1 << 32, 1 << 62, math.MaxInt - 1, math.MaxInt}
	var l []api.Tree
	for _, request := range []any{town(), lake()} {
		base := tree(t, text(request))
		change := func(i int, made func(v *api.Value)) {
			x := copied(base)
			made(&x[i])
			l = append(l, x)
		}
		for i, v := range base {
			for k := range v.Kids {
				for _, n := range append(ends, len(base)-1, len(base), i) {
					change(i, func(v *api.Value) { v.Kids[k] = n })
				}
			}
			for kind := range api.JSONKind(9) {
				change(i, func(v *api.Value) { v.Kind = kind - 1 })
			}
			for _, n := range ends {
				change(i, func(v *api.Value) { v.Num = n })
			}
			change(i, func(v *api.Value) { v.Names = nil })
			change(i, func(v *api.Value) { v.Kids = nil })
			change(i, func(v *api.Value) { v.Names = append(v.Names, v.Names...) })
			change(i, func(v *api.Value) { v.Names = append(v.Names, "service", "dims", "jobs", "skills", "") })
			change(i, func(v *api.Value) { v.Kids = append(v.Kids, 0, len(base), -1) })
		}
		for i := range base {
			l = append(l, base[:i], base[i:])
		}
	}
	// Each value is a kid of all, of itself too.
	for n := 1; n < 5; n++ {
		for kind := range api.JSONKind(7) {
			var x api.Tree
			names := []string{"graph", "vehicles", "jobs", "shipments", "dims"}
			for range n {
				x = append(x, api.Value{Kind: kind, Kids: []int{n - 1, 0, n / 2, n - 1, n - 1}, Names: names})
			}
			l = append(l, x)
		}
	}
	return l
}

// TestCallsEnd: no call panics, whatever it is handed.
func TestCallsEnd(t *testing.T) {
	done := make(chan int)
	go func() {
		for _, v := range append(requests(t), strangers(t)...) {
			x := tell(v)
			if x.F.Code == api.OK && x.F != (api.Fault{}) || x.F.Code != api.OK && !alike(x.P, api.Problem{}) {
				t.Errorf("R3: %+v beside %+v", x.P, x.F)
			}
			if x.F.At != 0 {
				t.Errorf("R3: the place of a byte: %+v", x.F)
			}
		}
		close(done)
	}()
	select {
	case <-done:
	case <-time.After(time.Minute):
		t.Fatal("P1: it doesn't end")
	}
}

// TestManyValues: trees of as many values as a text may have, and names as long as it may be.
func TestManyValues(t *testing.T) {
	faulty(t, slices.Repeat(list{0}, 8191), api.ErrType)
	o := plain(1)
	for len(o) < 4000 {
		o = append(o, pair{"x" + text(len(o)), 0})
	}
	faulty(t, o, api.ErrField, "x2")
	long := string(slices.Repeat([]byte("n"), 60000))
	faulty(t, obj{{"dims", 0}, {long, 0}}, api.ErrField, long)
	faulty(t, put(plain(1), slices.Repeat(list{obj{}}, 8000), "vehicles"), api.ErrMany, "vehicles")
}

// TestArgumentsStay: neither a tree nor its spare room is changed.
func TestArgumentsStay(t *testing.T) {
	for i, v := range append(requests(t), strangers(t)...) {
		if i > 300 && i%20 > 0 {
			continue
		}
		v = roomy(v)
		was := whole(v)
		tell(v)
		if !reflect.DeepEqual(was, whole(v)) {
			t.Fatalf("R6: %+v became %+v", was, whole(v))
		}
	}
}

// TestSpareRoomIsNone: what stands behind a list's end isn't of it.
func TestSpareRoomIsNone(t *testing.T) {
	for _, v := range requests(t) {
		if want, got := tell(v), tell(roomy(v)); !alike(want, got) {
			t.Errorf("R6: %+v, with spare room %+v", want, got)
		}
	}
}

// TestNoListShares: each list of an answer is memory of its own: lists of numbers, of windows and of breaks, written over one by one, spare room too, keep what was written last.
func TestNoListShares(t *testing.T) {
	for _, v := range requests(t) {
		x := tell(v)
		var ints [][]int
		var windows [][]api.Window
		each(reflect.ValueOf(&x).Elem(), func(l reflect.Value) {
			l = l.Slice(0, l.Cap())
			switch l := l.Interface().(type) {
			case []int:
				ints = append(ints, l)
			case []api.Window:
				windows = append(windows, l)
			}
		})
		for i, l := range ints {
			for k := range l {
				l[k] = i
			}
		}
		for i, l := range windows {
			for k := range l {
				l[k].From = i
			}
		}
		for i, l := range ints {
			if slices.ContainsFunc(l, func(n int) bool { return n != i }) {
				t.Fatalf("R6: %+v: lists of numbers share memory", v)
			}
		}
		for i, l := range windows {
			if slices.ContainsFunc(l, func(w api.Window) bool { return w.From != i }) {
				t.Fatalf("R6: %+v: lists of windows share memory", v)
			}
		}
	}
}

// TestAnswersAreNew: answers are the caller's: written over, spare room too, they change neither the tree nor another answer; and a tree, written over, changes no answer.
func TestAnswersAreNew(t *testing.T) {
	for _, v := range requests(t) {
		v = roomy(v)
		was := whole(v)
		first, second := tell(v), tell(v)
		want := copied(first)
		scribble(reflect.ValueOf(&second).Elem())
		if !alike(first, want) {
			t.Fatalf("R6: %+v became %+v", want, first)
		}
		if !reflect.DeepEqual(was, whole(v)) {
			t.Fatalf("R6: the tree became %+v", whole(v))
		}
		if again := tell(v); !alike(again, want) {
			t.Fatalf("R6: %+v, then %+v", want, again)
		}
		scribble(reflect.ValueOf(&v).Elem())
		if !alike(first, want) {
			t.Fatalf("R6: %+v became %+v", want, first)
		}
	}
}

// TestNilAndEmpty: lists without elements mean the same.
func TestNilAndEmpty(t *testing.T) {
	for _, v := range requests(t) {
		bare := copied(v)
		each(reflect.ValueOf(&bare).Elem(), func(l reflect.Value) {
			if l.Len() == 0 {
				l.SetZero()
			}
		})
		if want, got := tell(bare), tell(full(v)); !alike(want, got) {
			t.Errorf("R5: %+v of nil, %+v of empty lists", want, got)
		}
	}
}

// TestSameAgain: what was asked before changes no answer; and calls of several goroutines on the same trees don't touch each other.
func TestSameAgain(t *testing.T) {
	l := requests(t)
	var want []Told
	for _, v := range l {
		want = append(want, tell(v))
	}
	for i := range l {
		i = len(l) - 1 - i
		if got := tell(l[i]); !alike(got, want[i]) {
			t.Errorf("R8: %+v, then %+v", want[i], got)
		}
	}
	var wait sync.WaitGroup
	for range 8 {
		wait.Go(func() {
			for i, v := range l {
				if got := tell(v); !alike(got, want[i]) {
					t.Errorf("R8: %+v, then %+v", want[i], got)
				}
			}
		})
	}
	wait.Wait()
}

func FuzzProblem(f *testing.F) {
	for _, v := range []any{town(), lake(), plain(1), obj{}, list{1}} {
		f.Add([]byte(text(v)))
	}
	f.Fuzz(func(t *testing.T, b []byte) {
		v, _, e := json.Parse(b)
		if e != api.OK {
			return
		}
		if x := tell(v); x.F.Code == api.OK && model.Check(x.P) != api.OK {
			t.Errorf("P21.1: %s: no problem: %+v", b, x.P)
		}
	})
}
