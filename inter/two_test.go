package inter

import (
	"math/rand"
	"slices"
	"sync"
	"testing"
	"time"

	"haulier/api"
)

func TestNew(t *testing.T) {
	lists := [][]api.Visit{nil, {}, list(job(0)), list(job(0), job(0)), list(pickup(1), api.Visit{}, delivery(-9), pause(1<<40), api.Visit{Kind: -3})}
	for _, a := range lists {
		for _, b := range lists {
			x := New(a, b)
			if x == nil || !of(x).same(pair{a, b}) {
				t.Errorf("P17.5: New(%v, %v): %v", a, b, of(x))
			}
		}
	}
}

// TestAll: the six in their order: each does what its method does.
func TestAll(t *testing.T) {
	all := All()
	if len(all) != len(names) {
		t.Fatalf("P17.5: All: %d changes", len(all))
	}
	methods := []Change{
		func(t *Two, i, j, k int) bool { return t.Relocate(i, j, k) },
		func(t *Two, i, j, k int) bool { return t.Exchange(i, j, k) },
		func(t *Two, i, j, k int) bool { return t.Cross(i, j, k) },
		func(t *Two, i, j, k int) bool { return t.Tails(i, j, k) },
		func(t *Two, i, j, k int) bool { return t.Turned(i, j, k) },
		func(t *Two, i, j, k int) bool { return t.Swap(i, j, k) },
	}
	a, b := list(pickup(0), job(0), delivery(0)), list(pickup(1), job(1), job(2), delivery(1))
	for n := range names {
		for i := range 5 {
			for j := range 5 {
				for k := range 5 {
					x, y := New(a, b), New(a, b)
					if all[n](x, i, j, k) != methods[n](y, i, j, k) || !of(x).same(of(y)) {
						t.Errorf("P17.5: All, %s(%d, %d, %d): %v, %v", names[n], i, j, k, of(x), of(y))
					}
				}
			}
		}
	}
}

// TestAllIsNew: a list of changes, written over, spare room too, changes no other one.
func TestAllIsNew(t *testing.T) {
	all := All()
	all = all[:cap(all)]
	for i := range all {
		all[i] = func(t *Two, i, j, k int) bool { return false }
	}
	x := New(jobs(0, 3), jobs(3, 3))
	for n, change := range All() {
		if !change(x, 0, 0, 0) {
			t.Errorf("R6: All is the same list again: %s", names[n])
		}
		x = New(jobs(0, 3), jobs(3, 3))
	}
}

// TestNil: no visits, and nothing is done; the same of a Two of nothing.
func TestNil(t *testing.T) {
	var none *Two
	for _, two := range []*Two{none, {}, New(nil, nil), New([]api.Visit{}, nil), New(make([]api.Visit, 0, 8), make([]api.Visit, 0, 8))} {
		for n, change := range All() {
			for i := -1; i <= 3; i++ {
				for j := -1; j <= 3; j++ {
					for k := -1; k <= 3; k++ {
						if change(two, i, j, k) {
							t.Errorf("P17.5: %s(%d, %d, %d) of nothing", names[n], i, j, k)
						}
					}
				}
			}
			for _, i := range wrong {
				if change(two, i, i, i) || change(two, 0, i, i) || change(two, i, 0, 1) || change(two, 0, 0, i) {
					t.Errorf("P17.5: %s(%d) of nothing", names[n], i)
				}
			}
		}
		if a, b := two.Visits(); len(a) != 0 || len(b) != 0 {
			t.Errorf("R7: %v, %v", a, b)
		}
	}
}

// tries: a change, drawn, with places that often are there.
func tries(r *rand.Rand, p pair) (change, i, j, k int) {
	return r.Intn(len(names)), r.Intn(len(p.a) + 1), r.Intn(len(p.b) + 1), r.Intn(len(p.a) + len(p.b) + 1)
}

// roomy: a copy with spare room, in which stands what is no visit.
func roomy(l []api.Visit) []api.Visit {
	room := append(slices.Clone(l), api.Visit{Kind: -7, Item: -7}, api.Visit{Kind: -7, Item: -7}, api.Visit{Kind: -7, Item: -7})
	return room[:len(l)]
}

// whole: a copy of the list with its spare room.
func whole(l []api.Visit) []api.Visit { return slices.Clone(l[:cap(l)]) }

// scribble: writes over lists, spare room too.
func scribble(lists ...[]api.Visit) {
	for _, l := range lists {
		for i := range l[:cap(l)] {
			l[:cap(l)][i] = api.Visit{Kind: -1, Item: -1}
		}
	}
}

// TestArgumentsStay: what is handed in isn't changed, spare room included, and isn't kept.
func TestArgumentsStay(t *testing.T) {
	r := rand.New(rand.NewSource(177))
	for range 3000 {
		p := drawnRoutes(r)
		p = pair{roomy(p.a), roomy(p.b)}
		was := pair{whole(p.a), whole(p.b)}
		x := New(p.a, p.b)
		for range 5 {
			change, i, j, k := tries(r, of(x))
			All()[change](x, i, j, k)
		}
		if !was.same(pair{whole(p.a), whole(p.b)}) {
			t.Fatalf("R6: %v became %v", was, p)
		}
		want := of(x)
		scribble(p.a, p.b)
		if !of(x).same(want) {
			t.Fatalf("R6: what was handed in is kept: %v became %v", want, of(x))
		}
	}
}

// TestOneListTwice: both lists may be one and the same, or lie one behind the other in one room.
func TestOneListTwice(t *testing.T) {
	r := rand.New(rand.NewSource(178))
	for range 3000 {
		l := drawnPair(r).a
		cut := r.Intn(len(l) + 1)
		for _, p := range []pair{{l, l}, {l[:cut], l[cut:]}, {l, l[:cut]}} {
			change, i, j, k := tries(r, p)
			was := whole(l)
			holds(t, p, change, i, j, k)
			if !slices.Equal(was, whole(l)) {
				t.Fatalf("R6: %s(%d, %d, %d): %v became %v", names[change], i, j, k, was, l)
			}
		}
	}
}

// TestAnswersAreNew: what Visits answers is the caller's: written over, spare room too, it changes neither the lists kept nor the other list, nor another answer; and a change changes no answer.
func TestAnswersAreNew(t *testing.T) {
	r := rand.New(rand.NewSource(179))
	for range 3000 {
		p := drawnRoutes(r)
		x := New(p.a, p.b)
		for range 5 {
			change, i, j, k := tries(r, of(x))
			first, second := of(x), of(x)
			want := pair{slices.Clone(first.a), slices.Clone(first.b)}
			scribble(second.a)
			if !slices.Equal(second.b, want.b) {
				t.Fatalf("R6: both lists of an answer share memory: %v", second.b)
			}
			scribble(second.b)
			if !first.same(want) || !of(x).same(want) {
				t.Fatalf("R6: %v: then %v, kept %v", want, first, of(x))
			}
			All()[change](x, i, j, k)
			if !first.same(want) {
				t.Fatalf("R6: %s(%d, %d, %d): the answer %v became %v", names[change], i, j, k, want, first)
			}
			now := of(x)
			scribble(first.a, first.b)
			if !of(x).same(now) {
				t.Fatalf("R6: an answer of before is kept: %v became %v", now, of(x))
			}
		}
	}
}

// TestApart: those of the same lists, and copies of one, are changed each for itself.
func TestApart(t *testing.T) {
	r := rand.New(rand.NewSource(180))
	for range 3000 {
		p := drawnRoutes(r)
		x, y := New(p.a, p.b), New(p.a, p.b)
		z := *x
		change, i, j, k := tries(r, p)
		All()[change](x, i, j, k)
		w, now := *x, of(x)
		change, i, j, k = tries(r, now)
		All()[change](&w, i, j, k)
		if !of(y).same(p) || !of(&z).same(p) || !of(x).same(now) {
			t.Fatalf("R8: of %v: %v, %v, %v became %v", p, of(y), of(&z), now, of(x))
		}
	}
}

// TestSpareRoomIsNone: what stands behind a list's end isn't of it.
func TestSpareRoomIsNone(t *testing.T) {
	full := list(pickup(0), job(0), delivery(0), pickup(0))
	for n := range len(full) + 1 {
		if got := of(New(full[:n], full[n:])); !got.same(pair{full[:n], full[n:]}) {
			t.Errorf("R6: %v, want %v and %v", got, full[:n], full[n:])
		}
	}
	does(t, "R6: a second pickup behind the end", pair{full[:3], nil}, relocate, 0, 0, 1, pair{list(job(0)), list(pickup(0), delivery(0))})
	refuses(t, "R6: a delivery behind the end", pair{full[:2], nil}, relocate, 0, 0, 1)
}

// TestSameAgain: the same changes of the same visits answer the same, whatever was done before.
func TestSameAgain(t *testing.T) {
	told := func(seed int64) (pairs []pair, done []bool) {
		r := rand.New(rand.NewSource(seed))
		for range 200 {
			p := drawnRoutes(r)
			x := New(p.a, p.b)
			change, i, j, k := tries(r, p)
			done = append(done, All()[change](x, i, j, k))
			pairs = append(pairs, of(x))
		}
		return pairs, done
	}
	want, wantDone := told(181)
	told(182)
	got, gotDone := told(181)
	if !slices.EqualFunc(got, want, pair.same) || !slices.Equal(gotDone, wantDone) {
		t.Error("R8: other answers to the same changes")
	}
}

// TestAllAtOnce: those of the same lists are changed, each in a goroutine of its own.
func TestAllAtOnce(t *testing.T) {
	a, b := list(pickup(0), job(0), job(1), delivery(0), job(2)), list(job(3), pickup(1), delivery(1))
	got := make([]pair, 16)
	var w sync.WaitGroup
	for g := range got {
		w.Go(func() {
			x := New(a, b)
			for n := range 99 {
				for _, change := range All() {
					change(x, n%3, 1, 2)
				}
			}
			got[g] = of(x)
		})
	}
	w.Wait()
	for _, p := range got {
		if !p.same(got[0]) {
			t.Errorf("R8: %v, and %v at the same time", p, got[0])
		}
	}
}

// TestManyEnd: the changes of long lists end in good time.
func TestManyEnd(t *testing.T) {
	n := 1000000
	a, b := append(jobs(0, n), pickup(0), delivery(0)), append(jobs(n, n), pickup(1), delivery(1))
	done := make(chan int)
	go func() {
		x := New(a, b)
		all := x.Exchange(0, 0, 0) && x.Cross(1, 5, 0) && x.Tails(9, n/2, 0) && x.Tails(9, n/2, 0) && x.Turned(n/2, 0, 0) && x.Turned(n/2, n/2+2, 0)
		all = all && x.Swap(n, n, n+1) && x.Relocate(n, 0, n+3)
		got := of(x)
		if !all || len(got.a) != n || len(got.b) != n+4 || got.b[0] != pickup(1) || got.b[n+3] != delivery(1) {
			t.Errorf("P17: %v, %d and %d visits", all, len(got.a), len(got.b))
		}
		close(done)
	}()
	select {
	case <-done:
	case <-time.After(time.Minute):
		t.Fatal("P1: it doesn't end")
	}
}
