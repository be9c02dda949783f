package inner

import (
	"math/rand"
	"slices"
	"sync"
	"testing"
	"time"

	"haulier/api"
)

func TestNew(t *testing.T) {
	for _, l := range [][]api.Visit{nil, {}, list(job(0)), list(job(0), job(0)), list(pickup(1), api.Visit{}, delivery(-9), pause(1<<40), api.Visit{Kind: -3})} {
		x := New(l)
		if x == nil || !slices.Equal(x.Visits(), l) {
			t.Errorf("P16.5: New(%v): %v", l, x.Visits())
		}
	}
}

// TestAll: the six in their order: each does what its method does.
func TestAll(t *testing.T) {
	all := All()
	if len(all) != len(names) {
		t.Fatalf("P16.5: All: %d changes", len(all))
	}
	methods := []Change{
		func(l *Line, i, j, k int) bool { return l.TwoOpt(i, j, k) },
		func(l *Line, i, j, k int) bool { return l.OrOpt(i, j, k) },
		func(l *Line, i, j, k int) bool { return l.Relocate(i, j, k) },
		func(l *Line, i, j, k int) bool { return l.Exchange(i, j, k) },
		func(l *Line, i, j, k int) bool { return l.Mixed(i, j, k) },
		func(l *Line, i, j, k int) bool { return l.Pair(i, j, k) },
	}
	l := list(pickup(0), job(0), job(1), delivery(0), job(2))
	for n := range names {
		for i := range l {
			for j := range l {
				for k := range l {
					x, y := New(l), New(l)
					if all[n](x, i, j, k) != methods[n](y, i, j, k) || !slices.Equal(x.Visits(), y.Visits()) {
						t.Errorf("P16.5: All, %s(%d, %d, %d): %v, %v", names[n], i, j, k, x.Visits(), y.Visits())
					}
				}
			}
		}
	}
}

// TestAllIsNew: a list of changes, written over, spare room too, changes no other one.
func TestAllIsNew(t *testing.T) {
	all := All()
	all = all[:cap(all)]
	for i := range all {
		all[i] = func(l *Line, i, j, k int) bool { return false }
	}
	if l := New(jobs(4)); !All()[twoOpt](l, 0, 1, 0) || !All()[mixed](l, 0, 2, 0) {
		t.Error("R6: All is the same list again")
	}
}

// TestNil: no visits, and nothing is done; the same of a line of nothing.
func TestNil(t *testing.T) {
	var none *Line
	for _, l := range []*Line{none, {}, New(nil), New([]api.Visit{}), New(make([]api.Visit, 0, 8))} {
		for n, change := range All() {
			for i := -1; i <= 3; i++ {
				for j := -1; j <= 3; j++ {
					for k := -1; k <= 3; k++ {
						if change(l, i, j, k) {
							t.Errorf("P16.5: %s(%d, %d, %d) of nothing", names[n], i, j, k)
						}
					}
				}
			}
			for _, i := range wrong {
				if change(l, i, i, i) || change(l, 0, i, i) || change(l, i, 0, 1) || change(l, 0, 1, i) {
					t.Errorf("P16.5: %s(%d) of nothing", names[n], i)
				}
			}
		}
		if len(l.Visits()) != 0 {
			t.Errorf("R7: %v", l.Visits())
		}
	}
}

// tries: changes, drawn, with places that often are there.
func tries(r *rand.Rand, n int) (change, i, j, k int) {
	return r.Intn(len(names)), r.Intn(n + 1), r.Intn(n + 1), r.Intn(n + 1)
}

// roomy: a copy with spare room, in which stands what is no visit.
func roomy(l []api.Visit) []api.Visit {
	room := append(slices.Clone(l), api.Visit{Kind: -7, Item: -7}, api.Visit{Kind: -7, Item: -7}, api.Visit{Kind: -7, Item: -7})
	return room[:len(l)]
}

// whole: a copy of the list with its spare room.
func whole(l []api.Visit) []api.Visit { return slices.Clone(l[:cap(l)]) }

// scribble: writes over a list, spare room too.
func scribble(l []api.Visit) {
	for i := range l[:cap(l)] {
		l[:cap(l)][i] = api.Visit{Kind: -1, Item: -1}
	}
}

// TestArgumentsStay: what is handed in isn't changed, spare room included, and isn't kept.
func TestArgumentsStay(t *testing.T) {
	r := rand.New(rand.NewSource(167))
	for range 3000 {
		l := roomy(drawnRoute(r))
		was := whole(l)
		x := New(l)
		for range 5 {
			change, i, j, k := tries(r, len(l))
			All()[change](x, i, j, k)
		}
		if !slices.Equal(was, whole(l)) {
			t.Fatalf("R6: %v became %v", was, whole(l))
		}
		want := x.Visits()
		scribble(l)
		if !slices.Equal(x.Visits(), want) {
			t.Fatalf("R6: what was handed in is kept: %v became %v", want, x.Visits())
		}
	}
}

// TestAnswersAreNew: what Visits answers is the caller's: written over, spare room too, it changes neither the line nor another answer; and a change of the line changes no answer.
func TestAnswersAreNew(t *testing.T) {
	r := rand.New(rand.NewSource(168))
	for range 3000 {
		l := drawnRoute(r)
		x := New(l)
		for range 5 {
			change, i, j, k := tries(r, len(l))
			first, second := x.Visits(), x.Visits()
			want := slices.Clone(first)
			scribble(second)
			if !slices.Equal(first, want) || !slices.Equal(x.Visits(), want) {
				t.Fatalf("R6: %v: then %v, the line %v", want, first, x.Visits())
			}
			All()[change](x, i, j, k)
			if !slices.Equal(first, want) {
				t.Fatalf("R6: %s(%d, %d, %d): the answer %v became %v", names[change], i, j, k, want, first)
			}
			now := x.Visits()
			scribble(first)
			if !slices.Equal(x.Visits(), now) {
				t.Fatalf("R6: an answer of before is of the line: %v became %v", now, x.Visits())
			}
		}
	}
}

// TestLinesApart: lines of one list, and copies of a line, are changed each for itself.
func TestLinesApart(t *testing.T) {
	r := rand.New(rand.NewSource(169))
	for range 3000 {
		l := roomy(drawnRoute(r))
		x, y := New(l), New(l)
		z := *x
		change, i, j, k := tries(r, len(l))
		All()[change](x, i, j, k)
		change, i, j, k = tries(r, len(l))
		w := *x
		now := x.Visits()
		All()[change](&w, i, j, k)
		if !slices.Equal(y.Visits(), l) || !slices.Equal(z.Visits(), l) || !slices.Equal(x.Visits(), now) {
			t.Fatalf("R8: of %v: %v, %v, %v became %v", l, y.Visits(), z.Visits(), now, x.Visits())
		}
	}
}

// TestSpareRoomIsNone: what stands behind a list's end isn't of it.
func TestSpareRoomIsNone(t *testing.T) {
	full := list(pickup(0), job(0), job(1), delivery(0), pickup(0))
	for n := range len(full) + 1 {
		if got := New(full[:n]).Visits(); !slices.Equal(got, full[:n]) {
			t.Errorf("R6: %v, want %v", got, full[:n])
		}
	}
	does(t, "R6: a second pickup behind the end", full[:4], pair, 0, 2, 3, list(job(0), job(1), pickup(0), delivery(0)))
	refuses(t, "R6: a delivery behind the end", full[:3], pair, 0, 0, 1)
}

// TestSameAgain: the same changes of the same visits answer the same, whatever was done before.
func TestSameAgain(t *testing.T) {
	told := func(seed int64) (l [][]api.Visit, done []bool) {
		r := rand.New(rand.NewSource(seed))
		for range 200 {
			x := New(drawnRoute(r))
			change, i, j, k := tries(r, 8)
			done = append(done, All()[change](x, i, j, k))
			l = append(l, x.Visits())
		}
		return l, done
	}
	want, wantDone := told(170)
	told(171)
	got, gotDone := told(170)
	if !slices.EqualFunc(got, want, slices.Equal) || !slices.Equal(gotDone, wantDone) {
		t.Error("R8: other answers to the same changes")
	}
}

// TestAllAtOnce: lines of one list are changed, each in a goroutine of its own.
func TestAllAtOnce(t *testing.T) {
	l := list(pickup(0), job(0), job(1), delivery(0), job(2))
	got := make([][]api.Visit, 16)
	var w sync.WaitGroup
	for g := range got {
		w.Go(func() {
			x := New(l)
			for range 99 {
				for _, change := range All() {
					change(x, 0, 2, 3)
				}
			}
			got[g] = x.Visits()
		})
	}
	w.Wait()
	for _, v := range got {
		if !slices.Equal(v, got[0]) {
			t.Errorf("R8: %v, and %v at the same time", v, got[0])
		}
	}
}

// TestManyEnd: a long line's changes end in good time.
func TestManyEnd(t *testing.T) {
	n := 1000000
	l := append(jobs(n), pickup(0), delivery(0))
	done := make(chan int)
	go func() {
		x := New(l)
		x.TwoOpt(0, n, 0)
		x.OrOpt(0, n-3, 3)
		x.Relocate(n, 0, 0)
		x.Exchange(0, n, 0)
		x.Mixed(0, n, 0)
		for i, v := range x.Visits() {
			if v == delivery(0) {
				x.Pair(i, 0, n+1)
			}
		}
		if got := x.Visits(); got[0] != pickup(0) || got[n+1] != delivery(0) || len(got) != n+2 {
			t.Errorf("P16.4: %v first, %v last", got[0], got[n+1])
		}
		close(done)
	}()
	select {
	case <-done:
	case <-time.After(time.Minute):
		t.Fatal("P1: it doesn't end")
	}
}
