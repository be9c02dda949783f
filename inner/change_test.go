package inner

import (
	"math"
	"math/rand"
	"slices"
	"testing"

	"haulier/api"
)

// does: is a change done, and does it make this of the list?
func does(t *testing.T, what string, l []api.Visit, change, i, j, k int, want []api.Visit) {
	t.Helper()
	x := New(l)
	if done := All()[change](x, i, j, k); !done || !slices.Equal(x.Visits(), want) {
		t.Errorf("%s: %s(%d, %d, %d) of %v: %v, %v, want %v", what, names[change], i, j, k, l, done, x.Visits(), want)
	}
}

// refuses: is a change refused, and the list as it was?
func refuses(t *testing.T, what string, l []api.Visit, change, i, j, k int) {
	t.Helper()
	x := New(l)
	if done := All()[change](x, i, j, k); done || !slices.Equal(x.Visits(), l) {
		t.Errorf("%s: %s(%d, %d, %d) of %v: %v, %v", what, names[change], i, j, k, l, done, x.Visits())
	}
}

// TestExamples: those of the chapter, by their methods.
func TestExamples(t *testing.T) {
	a, b, c, d := job(0), job(1), job(2), job(3)
	for i, x := range []struct {
		change func(l *Line) bool
		want   []api.Visit
	}{
		{func(l *Line) bool { return l.TwoOpt(1, 3, 0) }, list(a, d, c, b)},
		{func(l *Line) bool { return l.OrOpt(0, 2, 2) }, list(c, d, a, b)},
		{func(l *Line) bool { return l.Relocate(3, 0, 0) }, list(d, a, b, c)},
		{func(l *Line) bool { return l.Exchange(0, 3, 0) }, list(d, b, c, a)},
		{func(l *Line) bool { return l.Mixed(0, 2, 0) }, list(c, d, b, a)},
		{func(l *Line) bool { return l.Mixed(3, 0, 0) }, list(d, c, a, b)},
	} {
		l := New(list(a, b, c, d))
		if !x.change(l) || !slices.Equal(l.Visits(), x.want) {
			t.Errorf("P16: example %d: %v, want %v", i, l.Visits(), x.want)
		}
	}
	l := New(list(pickup(0), delivery(0), a))
	if l.Pair(2, 0, 1) || !slices.Equal(l.Visits(), list(pickup(0), delivery(0), a)) {
		t.Errorf("P16.4: Pair of a job: %v", l.Visits())
	}
	if !l.Pair(1, 1, 2) || !slices.Equal(l.Visits(), list(a, pickup(0), delivery(0))) {
		t.Errorf("P16.4: Pair: %v", l.Visits())
	}
}

func TestTwoOpt(t *testing.T) {
	a, b, c, d, e := job(0), job(1), pickup(2), delivery(2), pause(0)
	l := list(a, b, c, d, e)
	does(t, "P16.1", l, twoOpt, 0, 4, 0, list(e, d, c, b, a))
	does(t, "P16.1", l, twoOpt, 0, 1, 0, list(b, a, c, d, e))
	does(t, "P16.1", l, twoOpt, 3, 4, 0, list(a, b, c, e, d))
	does(t, "P16.1", l, twoOpt, 1, 3, 0, list(a, d, c, b, e))
	for _, ij := range [][2]int{{0, 0}, {4, 4}, {3, 1}, {4, 0}, {-1, 2}, {-1, 0}, {0, 5}, {4, 5}, {5, 6}, {0, 6}} {
		refuses(t, "P16.1", l, twoOpt, ij[0], ij[1], 0)
		refuses(t, "P16.1", l, exchange, ij[0], ij[1], 0)
	}
}

func TestExchange(t *testing.T) {
	a, b, c, d, e := job(0), job(1), pickup(2), delivery(2), pause(0)
	l := list(a, b, c, d, e)
	does(t, "P16.1", l, exchange, 0, 4, 0, list(e, b, c, d, a))
	does(t, "P16.1", l, exchange, 0, 1, 0, list(b, a, c, d, e))
	does(t, "P16.1", l, exchange, 3, 4, 0, list(a, b, c, e, d))
	does(t, "P16.1", l, exchange, 0, 3, 0, list(d, b, c, a, e))
	does(t, "P16.1", list(a, b, a), exchange, 0, 2, 0, list(a, b, a))
}

func TestOrOpt(t *testing.T) {
	a, b, c, d, e := job(0), job(1), pickup(2), delivery(2), pause(0)
	l := list(a, b, c, d, e)
	does(t, "P16.2", l, orOpt, 0, 4, 1, list(b, c, d, e, a))
	does(t, "P16.2", l, orOpt, 4, 0, 1, list(e, a, b, c, d))
	does(t, "P16.2", l, orOpt, 1, 2, 1, list(a, c, b, d, e))
	does(t, "P16.2", l, orOpt, 0, 3, 2, list(c, d, e, a, b))
	does(t, "P16.2", l, orOpt, 3, 0, 2, list(d, e, a, b, c))
	does(t, "P16.2", l, orOpt, 1, 0, 2, list(b, c, a, d, e))
	does(t, "P16.2", l, orOpt, 0, 1, 2, list(c, a, b, d, e))
	does(t, "P16.2", l, orOpt, 0, 2, 3, list(d, e, a, b, c))
	does(t, "P16.2", l, orOpt, 2, 0, 3, list(c, d, e, a, b))
	does(t, "P16.2", l, orOpt, 1, 2, 3, list(a, e, b, c, d))
	for _, x := range [][3]int{
		{0, 4, 2}, {4, 0, 2}, {0, 3, 3}, {3, 0, 3}, {0, 5, 1}, {5, 0, 1}, {-1, 0, 1}, {0, -1, 1}, {2, 2, 1}, {2, 2, 2}, {2, 2, 3},
		{0, 1, 0}, {0, 1, -1}, {0, 1, 4}, {1, 0, 4}, {0, 1, 5}, {0, 1, math.MaxInt}, {0, 1, math.MinInt}, {0, 1, 1<<32 + 1},
	} {
		refuses(t, "P16.2", l, orOpt, x[0], x[1], x[2])
	}
	refuses(t, "P16.2: all of them", list(a, b, c), orOpt, 0, 1, 3)
	refuses(t, "P16.2: more than all of them", list(a, b), orOpt, 0, 1, 3)
	refuses(t, "P16.2: four of many", jobs(9), orOpt, 0, 1, 4)
}

// TestRelocate: one visit, whatever the last number says.
func TestRelocate(t *testing.T) {
	a, b, c := job(0), job(1), job(2)
	for _, k := range append(wrong, 0, 1, 2, 3, 4) {
		does(t, "P16.2", list(a, b, c), relocate, 0, 2, k, list(b, c, a))
		does(t, "P16.2", list(a, b, c), relocate, 2, 1, k, list(a, c, b))
		refuses(t, "P16.2", list(a, b, c), relocate, 1, 1, k)
		refuses(t, "P16.2", list(a, b, c), relocate, 0, 3, k)
		refuses(t, "P16.2", list(a, b, c), relocate, 3, 0, k)
	}
}

func TestMixed(t *testing.T) {
	a, b, c, d, e := job(0), job(1), pickup(2), delivery(2), pause(0)
	l := list(a, b, c, d, e)
	does(t, "P16.3", l, mixed, 0, 3, 0, list(d, e, b, c, a))
	does(t, "P16.3", l, mixed, 0, 1, 0, list(b, c, a, d, e))
	does(t, "P16.3", l, mixed, 4, 0, 0, list(e, c, d, a, b))
	does(t, "P16.3", l, mixed, 4, 2, 0, list(a, b, e, c, d))
	does(t, "P16.3", l, mixed, 2, 0, 0, list(c, a, b, d, e))
	does(t, "P16.3", l, mixed, 1, 3, 0, list(a, d, e, c, b))
	does(t, "P16.3", list(a, b, c), mixed, 0, 1, 0, list(b, c, a))
	does(t, "P16.3", list(a, b, c), mixed, 2, 0, 0, list(c, a, b))
	for _, ij := range [][2]int{{0, 0}, {1, 0}, {2, 2}, {3, 2}, {3, 3}, {4, 3}, {0, 4}, {1, 4}, {0, -1}, {2, -1}, {-1, 1}, {5, 0}, {5, 3}, {0, 5}} {
		refuses(t, "P16.3", l, mixed, ij[0], ij[1], 0)
	}
}

// TestLastNumber: the changes that use only two numbers don't look at the third.
func TestLastNumber(t *testing.T) {
	for _, change := range []int{twoOpt, relocate, exchange, mixed} {
		for i := -1; i <= 5; i++ {
			for j := -1; j <= 5; j++ {
				want, may := changed(jobs(5), change, i, j, 0)
				for _, k := range append(wrong, 0, 1, 2, 3, 4, 5) {
					if may {
						does(t, "P16", jobs(5), change, i, j, k, want)
					} else {
						refuses(t, "P16", jobs(5), change, i, j, k)
					}
				}
			}
		}
	}
}

func TestPair(t *testing.T) {
	a, b, p, d := job(0), job(1), pickup(0), delivery(0)
	l := list(p, a, d, b)
	for _, i := range []int{0, 2} {
		does(t, "P16.4", l, pair, i, 0, 1, list(p, d, a, b))
		does(t, "P16.4", l, pair, i, 0, 2, l)
		does(t, "P16.4", l, pair, i, 0, 3, list(p, a, b, d))
		does(t, "P16.4", l, pair, i, 1, 2, list(a, p, d, b))
		does(t, "P16.4", l, pair, i, 1, 3, list(a, p, b, d))
		does(t, "P16.4", l, pair, i, 2, 3, list(a, b, p, d))
		for _, jk := range [][2]int{{-1, 0}, {-1, 1}, {0, 0}, {1, 1}, {1, 0}, {3, 3}, {3, 2}, {3, 4}, {2, 4}, {0, 4}, {2, 2}} {
			refuses(t, "P16.4", l, pair, i, jk[0], jk[1])
		}
	}
	for _, i := range []int{-1, 1, 3, 4} {
		refuses(t, "P16.4: no pickup and no delivery", l, pair, i, 0, 1)
	}
	does(t, "P16.4: nothing else", list(p, d), pair, 0, 0, 1, list(p, d))
	does(t, "P16.4: the wrong way round", list(d, p), pair, 0, 0, 1, list(p, d))
	does(t, "P16.4: the wrong way round", list(d, a, p), pair, 0, 1, 2, list(a, p, d))
	does(t, "P16.4: the wrong way round", list(d, a, p), pair, 2, 0, 2, list(p, a, d))
}

// TestPairOfMany: just one pickup and one delivery of the item; what else has that item says nothing, and neither do other shipments.
func TestPairOfMany(t *testing.T) {
	a, p, d, q, e := job(0), pickup(0), delivery(0), pickup(1), delivery(1)
	for _, l := range [][]api.Visit{{p, p, d}, {p, d, d}, {p, p, d, d}, {p}, {d}, {p, a}, {d, a}, {p, p}, {d, d}, {p, e}, {d, q}, {p, q, q}, {p, pause(0)}, {d, job(0)}, {p, api.Visit{Kind: api.AtEnd}}} {
		for i := range l {
			for j := range len(l) - 1 {
				for k := j + 1; k < len(l); k++ {
					refuses(t, "P16.4: not just two", l, pair, i, j, k)
				}
			}
		}
	}
	does(t, "P16.4: a job of that item", list(p, job(0), job(0), d), pair, 3, 2, 3, list(job(0), job(0), p, d))
	does(t, "P16.4: a break of that item", list(pause(0), p, d, pause(0)), pair, 1, 0, 3, list(p, pause(0), pause(0), d))
	does(t, "P16.4: start and end", list(api.Visit{Kind: api.AtStart}, p, d, api.Visit{Kind: api.AtEnd}), pair, 1, 2, 3, list(api.Visit{Kind: api.AtStart}, api.Visit{Kind: api.AtEnd}, p, d))
	does(t, "P16.4: no kind", list(api.Visit{}, p, d, api.Visit{Kind: 7}), pair, 1, 0, 1, list(p, d, api.Visit{}, api.Visit{Kind: 7}))
	does(t, "P16.4: another one within", list(p, q, e, d), pair, 0, 1, 2, list(q, p, d, e))
	does(t, "P16.4: the other one", list(p, q, e, d), pair, 2, 0, 3, list(q, p, d, e))
	does(t, "P16.4: another one that is wrong", list(p, q, q, d), pair, 0, 0, 1, list(p, d, q, q))
	for _, n := range []int{-1, math.MinInt, math.MaxInt, 1 << 32} {
		does(t, "P16.4: any item", list(pickup(n), a, p, delivery(n)), pair, 0, 2, 3, list(a, p, pickup(n), delivery(n)))
	}
	refuses(t, "P16.4: not the whole number", list(p, delivery(1<<32)), pair, 0, 0, 1)
	for _, k := range []api.VisitKind{0, api.AtJob, api.AtBreak, api.AtStart, api.AtEnd, 7, -1, 1<<32 + 2} {
		refuses(t, "P16.4: no such kind", list(p, api.Visit{Kind: k}, d), pair, 1, 0, 1)
	}
}

// TestEach: all lists of up to seven jobs, and all places in and around them.
func TestEach(t *testing.T) {
	for n := range 8 {
		for change := range names {
			for i := -2; i <= n+2; i++ {
				for j := -2; j <= n+2; j++ {
					for k := -1; k <= 5; k++ {
						holds(t, jobs(n), change, i, j, k)
					}
				}
			}
		}
	}
}

// TestPairEach: all lists of up to five visits of few kinds.
func TestPairEach(t *testing.T) {
	few := list(pickup(0), delivery(0), pickup(1), delivery(1), job(0))
	lists := [][]api.Visit{nil}
	for from, n := 0, 0; n <= 5; n++ {
		to := len(lists)
		for ; from < to; from++ {
			l := lists[from]
			for i := -1; i <= n; i++ {
				for j := -1; j <= n; j++ {
					for k := -1; k <= n+1; k++ {
						holds(t, l, pair, i, j, k)
					}
				}
			}
			for _, v := range few {
				lists = append(lists, append(slices.Clone(l), v))
			}
		}
	}
}

// holds: does a change do what the chapter's words say, on a line of its own?
func holds(t *testing.T, l []api.Visit, change, i, j, k int) {
	t.Helper()
	if want, may := changed(l, change, i, j, k); may {
		does(t, "P16", l, change, i, j, k, want)
	} else {
		refuses(t, "P16", l, change, i, j, k)
	}
}

// TestWrongNumbers: numbers far from any place, each alone and all together.
func TestWrongNumbers(t *testing.T) {
	l := list(pickup(0), job(0), delivery(0), job(1), job(2))
	near := []int{0, 1, 2, 3, 4}
	for _, n := range wrong {
		for change := range names {
			for _, m := range near {
				refuses(t, "P16", l, change, n, m, 1)
				refuses(t, "P16", l, change, m, n, 1)
				refuses(t, "P16", l, change, n, n, n)
				refuses(t, "P16", nil, change, n, m, 1)
				if change == orOpt || change == pair {
					refuses(t, "P16", l, change, 0, m, n)
					refuses(t, "P16", l, change, 2, m, n)
				}
			}
			for _, m := range wrong {
				refuses(t, "P16", l, change, n, m, 1)
				refuses(t, "P16", l, change, 0, n, m)
				refuses(t, "P16", l, change, n, 0, m)
			}
		}
	}
}

// TestManyChanges: one line, changed again and again: each change makes of it what the chapter's words say, and keeps its visits.
func TestManyChanges(t *testing.T) {
	r := rand.New(rand.NewSource(166))
	done := make([]int, len(names))
	for round := range 600 {
		l := drawnLine(r)
		if round%2 == 0 {
			l = drawnRoute(r)
		}
		x, held := New(l), sorted(l)
		for range 100 {
			change, i, j, k := r.Intn(len(names)), r.Intn(len(l)+3)-1, r.Intn(len(l)+3)-1, r.Intn(len(l)+3)-1
			want, may := changed(l, change, i, j, k)
			if may {
				l = want
				done[change]++
			}
			if got := All()[change](x, i, j, k); got != may || !slices.Equal(x.Visits(), l) {
				t.Fatalf("P16: %s(%d, %d, %d): %v, %v, want %v, %v", names[change], i, j, k, got, x.Visits(), may, l)
			}
			if !slices.Equal(sorted(x.Visits()), held) {
				t.Fatalf("P16.6: %s(%d, %d, %d): %v, of %v", names[change], i, j, k, x.Visits(), held)
			}
		}
	}
	for change, n := range done {
		if n < 300 {
			t.Errorf("%s was done only %d times", names[change], n)
		}
	}
}

// sorted: the visits by their kinds and items.
func sorted(l []api.Visit) []api.Visit {
	l = slices.Clone(l)
	slices.SortFunc(l, func(a, b api.Visit) int {
		switch {
		case a == b:
			return 0
		case a.Kind < b.Kind || a.Kind == b.Kind && a.Item < b.Item:
			return -1
		}
		return 1
	})
	return l
}
