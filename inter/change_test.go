package inter

import (
	"math/rand"
	"slices"
	"testing"

	"haulier/api"
)

// does: is a change done, and does it make this of both lists?
func does(t *testing.T, what string, p pair, change, i, j, k int, want pair) {
	t.Helper()
	x := New(p.a, p.b)
	if done := All()[change](x, i, j, k); !done || !of(x).same(want) {
		t.Errorf("%s: %s(%d, %d, %d) of %v: %v, %v, want %v", what, names[change], i, j, k, p, done, of(x), want)
	}
}

// refuses: is a change refused, and are both lists as they were?
func refuses(t *testing.T, what string, p pair, change, i, j, k int) {
	t.Helper()
	x := New(p.a, p.b)
	if done := All()[change](x, i, j, k); done || !of(x).same(p) {
		t.Errorf("%s: %s(%d, %d, %d) of %v: %v, %v", what, names[change], i, j, k, p, done, of(x))
	}
}

// holds: does a change do what the chapter's words say?
func holds(t *testing.T, p pair, change, i, j, k int) {
	t.Helper()
	if want, may := changed(p, change, i, j, k); may {
		does(t, "P17", p, change, i, j, k, want)
	} else {
		refuses(t, "P17", p, change, i, j, k)
	}
}

// TestExamples: those of the chapter, by their methods.
func TestExamples(t *testing.T) {
	x, y, u, v := job(0), job(1), job(2), job(3)
	for i, c := range []struct {
		change func(t *Two) bool
		want   pair
	}{
		{func(t *Two) bool { return t.Relocate(0, 1, 0) }, pair{list(y), list(u, x, v)}},
		{func(t *Two) bool { return t.Exchange(0, 1, 0) }, pair{list(v, y), list(u, x)}},
		{func(t *Two) bool { return t.Cross(0, 0, 0) }, pair{list(u, v), list(x, y)}},
		{func(t *Two) bool { return t.Tails(1, 1, 0) }, pair{list(x, v), list(u, y)}},
		{func(t *Two) bool { return t.Turned(1, 1, 0) }, pair{list(x, u), list(y, v)}},
		{func(t *Two) bool { return t.Swap(1, 0, 0) }, pair{list(x, u), list(v, y)}},
	} {
		two := New(list(x, y), list(u, v))
		if !c.change(two) || !of(two).same(c.want) {
			t.Errorf("P17: example %d: %v, want %v", i, of(two), c.want)
		}
	}
}

// TestRelocateJob: of a job, whatever the last number says.
func TestRelocateJob(t *testing.T) {
	x, y, u, v := job(0), job(1), job(2), job(3)
	p := pair{list(x, y), list(u, v)}
	for _, k := range append(wrong, 0, 1, 2, 3, 4) {
		does(t, "P17.1", p, relocate, 0, 0, k, pair{list(y), list(x, u, v)})
		does(t, "P17.1", p, relocate, 0, 2, k, pair{list(y), list(u, v, x)})
		does(t, "P17.1", p, relocate, 1, 1, k, pair{list(x), list(u, y, v)})
		does(t, "P17.1: into nothing", pair{list(x), nil}, relocate, 0, 0, k, pair{nil, list(x)})
		for _, ij := range [][2]int{{-1, 0}, {2, 0}, {3, 0}, {0, -1}, {0, 3}, {0, 4}, {2, 3}, {-1, -1}} {
			refuses(t, "P17.1", p, relocate, ij[0], ij[1], k)
		}
	}
	does(t, "P17.1: the second list has it as well", pair{list(x), list(x)}, relocate, 0, 1, 0, pair{nil, list(x, x)})
	refuses(t, "P17.1: twice", pair{list(x, y, x), list(u)}, relocate, 0, 0, 1)
	refuses(t, "P17.1: twice", pair{list(x, y, x), list(u)}, relocate, 2, 0, 1)
	does(t, "P17.1: another one twice", pair{list(x, y, x), list(u)}, relocate, 1, 0, 1, pair{list(x, x), list(y, u)})
	does(t, "P17.1: the item of others", pair{list(pickup(0), x, delivery(0), pause(0)), nil}, relocate, 1, 0, 1, pair{list(pickup(0), delivery(0), pause(0)), list(x)})
}

// TestRelocateShipment: both visits, by either of them.
func TestRelocateShipment(t *testing.T) {
	p, d, x, y, u, v := pickup(0), delivery(0), job(0), job(1), job(2), job(3)
	l := pair{list(x, p, y, d), list(u, v)}
	for _, i := range []int{1, 3} {
		rest := list(x, y)
		does(t, "P17.1", l, relocate, i, 0, 1, pair{rest, list(p, d, u, v)})
		does(t, "P17.1", l, relocate, i, 0, 2, pair{rest, list(p, u, d, v)})
		does(t, "P17.1", l, relocate, i, 0, 3, pair{rest, list(p, u, v, d)})
		does(t, "P17.1", l, relocate, i, 1, 2, pair{rest, list(u, p, d, v)})
		does(t, "P17.1", l, relocate, i, 1, 3, pair{rest, list(u, p, v, d)})
		does(t, "P17.1", l, relocate, i, 2, 3, pair{rest, list(u, v, p, d)})
		for _, jk := range [][2]int{{-1, 0}, {-1, 1}, {0, 0}, {0, -1}, {1, 1}, {1, 0}, {2, 2}, {2, 1}, {0, 4}, {2, 4}, {3, 3}, {3, 4}} {
			refuses(t, "P17.1", l, relocate, i, jk[0], jk[1])
		}
	}
	does(t, "P17.1: into nothing", pair{list(p, d), nil}, relocate, 1, 0, 1, pair{nil, list(p, d)})
	does(t, "P17.1: the wrong way round", pair{list(d, x, p), list(u)}, relocate, 0, 0, 2, pair{list(x), list(p, u, d)})
	does(t, "P17.1: the second list has it as well", pair{list(p, d), list(p, d)}, relocate, 0, 1, 2, pair{nil, list(p, p, d, d)})
	does(t, "P17.1: the item of others", pair{list(x, pause(0), p, d), nil}, relocate, 2, 0, 1, pair{list(x, pause(0)), list(p, d)})
	does(t, "P17.1: another one within", pair{list(p, pickup(1), delivery(1), d), nil}, relocate, 0, 0, 1, pair{list(pickup(1), delivery(1)), list(p, d)})
}

// notWhole: lists with a visit at place 0 whose task isn't whole there, or that is of none.
func notWhole() [][]api.Visit {
	x, p, d := job(0), pickup(0), delivery(0)
	return [][]api.Visit{
		{p}, {d}, {p, p}, {d, d}, {p, p, d}, {d, p, d}, {p, d, p, d}, {p, delivery(1)}, {d, pickup(1)}, {p, x}, {d, pause(0)}, {p, delivery(1 << 32)},
		{x, x}, {x, job(1), x}, {pause(0)}, {pause(0), p, d, x}, {{}}, {{Kind: api.AtStart}}, {{Kind: api.AtEnd}, x}, {{Kind: 7}}, {{Kind: -1}}, {{Kind: 1<<32 + 1}}, {{Kind: 1<<32 + 2}, p, d},
	}
}

// TestNotWhole: the task that goes over must be whole in its list; where else its visits stand says nothing.
func TestNotWhole(t *testing.T) {
	for _, l := range notWhole() {
		for _, other := range [][]api.Visit{nil, {job(5)}, {job(5), job(6), job(7)}, {pickup(0)}, {delivery(0)}, {job(0)}, {pickup(0), delivery(0)}} {
			for j := range len(other) + 1 {
				for k := range len(other) + 2 {
					refuses(t, "P17.1: not whole", pair{l, other}, relocate, 0, j, k)
					refuses(t, "P17.4: not whole", pair{l, other}, swap, 0, j, k)
				}
			}
			for i := range other {
				for k := range len(other) + 2 {
					refuses(t, "P17.4: not whole in the second list", pair{other, l}, swap, i, 0, k)
				}
			}
		}
	}
}

func TestExchange(t *testing.T) {
	x, y, p, d, u, v, e := job(0), job(1), pickup(2), delivery(2), job(2), job(3), pause(0)
	l := pair{list(x, p, y), list(u, d, e, v)}
	does(t, "P17.2", l, exchange, 0, 0, 0, pair{list(u, p, y), list(x, d, e, v)})
	does(t, "P17.2", l, exchange, 2, 3, 0, pair{list(x, p, v), list(u, d, e, y)})
	does(t, "P17.2", l, exchange, 1, 1, 0, pair{list(x, d, y), list(u, p, e, v)})
	does(t, "P17.2", l, exchange, 2, 2, 0, pair{list(x, p, e), list(u, d, y, v)})
	does(t, "P17.2: one each", pair{list(x), list(u)}, exchange, 0, 0, 0, pair{list(u), list(x)})
	does(t, "P17.2: equal ones", pair{list(x), list(x)}, exchange, 0, 0, 0, pair{list(x), list(x)})
	for _, ij := range [][2]int{{-1, 0}, {0, -1}, {3, 0}, {0, 4}, {3, 3}, {2, 4}, {3, 4}, {-1, -1}} {
		refuses(t, "P17.2", l, exchange, ij[0], ij[1], 0)
	}
	refuses(t, "P17.2: one list only", pair{list(x), nil}, exchange, 0, 0, 0)
	refuses(t, "P17.2: one list only", pair{nil, list(x)}, exchange, 0, 0, 0)
}

func TestCross(t *testing.T) {
	x, y, p, d, u, v, e := job(0), job(1), pickup(2), delivery(2), job(2), job(3), pause(0)
	l := pair{list(x, p, y), list(u, d, e, v)}
	does(t, "P17.2", l, cross, 0, 0, 0, pair{list(u, d, y), list(x, p, e, v)})
	does(t, "P17.2", l, cross, 1, 2, 0, pair{list(x, e, v), list(u, d, p, y)})
	does(t, "P17.2", l, cross, 0, 1, 0, pair{list(d, e, y), list(u, x, p, v)})
	does(t, "P17.2", l, cross, 1, 0, 0, pair{list(x, u, d), list(p, y, e, v)})
	for _, ij := range [][2]int{{-1, 0}, {0, -1}, {2, 0}, {0, 3}, {2, 2}, {1, 3}, {3, 0}, {0, 4}} {
		refuses(t, "P17.2", l, cross, ij[0], ij[1], 0)
	}
	refuses(t, "P17.2: one and two", pair{list(x), list(u, v)}, cross, 0, 0, 0)
	refuses(t, "P17.2: two and one", pair{list(x, y), list(u)}, cross, 0, 0, 0)
}

func TestTails(t *testing.T) {
	x, y, p, d, u, v, e := job(0), job(1), pickup(2), delivery(2), job(2), job(3), pause(0)
	l := pair{list(x, p, y), list(u, d, e, v)}
	does(t, "P17.3: all of both", l, tails, 0, 0, 0, pair{list(u, d, e, v), list(x, p, y)})
	does(t, "P17.3", l, tails, 1, 2, 0, pair{list(x, e, v), list(u, d, p, y)})
	does(t, "P17.3", l, tails, 2, 1, 0, pair{list(x, p, d, e, v), list(u, y)})
	does(t, "P17.3: the first at its end", l, tails, 3, 1, 0, pair{list(x, p, y, d, e, v), list(u)})
	does(t, "P17.3: the first at its end", l, tails, 3, 0, 0, pair{list(x, p, y, u, d, e, v), nil})
	does(t, "P17.3: the second at its end", l, tails, 2, 4, 0, pair{list(x, p), list(u, d, e, v, y)})
	does(t, "P17.3: the second at its end", l, tails, 0, 4, 0, pair{nil, list(u, d, e, v, x, p, y)})
	does(t, "P17.3: into nothing", pair{list(x, y), nil}, tails, 1, 0, 0, pair{list(x), list(y)})
	does(t, "P17.3: of nothing", pair{nil, list(x, y)}, tails, 0, 1, 0, pair{list(y), list(x)})
	for _, ij := range [][2]int{{3, 4}, {-1, 0}, {0, -1}, {4, 0}, {0, 5}, {4, 4}, {3, 5}, {-1, 4}, {3, -1}} {
		refuses(t, "P17.3", l, tails, ij[0], ij[1], 0)
	}
	refuses(t, "P17.3: both at the end", pair{list(x), nil}, tails, 1, 0, 0)
	refuses(t, "P17.3: both at the end", pair{nil, list(x)}, tails, 0, 1, 0)
	refuses(t, "P17.3: both at the end", pair{}, tails, 0, 0, 0)
}

func TestTurned(t *testing.T) {
	x, y, p, d, u, v, e := job(0), job(1), pickup(2), delivery(2), job(2), job(3), pause(0)
	l := pair{list(x, p, y), list(u, d, e, v)}
	does(t, "P17.3", l, turned, 1, 2, 0, pair{list(x, d, u), list(y, p, e, v)})
	does(t, "P17.3", l, turned, 2, 3, 0, pair{list(x, p, e, d, u), list(y, v)})
	does(t, "P17.3: both at their beginnings", l, turned, 0, 0, 0, pair{nil, list(y, p, x, u, d, e, v)})
	does(t, "P17.3: both at their ends", l, turned, 3, 4, 0, pair{list(x, p, y, v, e, d, u), nil})
	does(t, "P17.3", l, turned, 0, 4, 0, pair{list(v, e, d, u), list(y, p, x)})
	does(t, "P17.3: nothing moves", l, turned, 3, 0, 0, l)
	does(t, "P17.3: the first alone", pair{list(x, y), nil}, turned, 0, 0, 0, pair{nil, list(y, x)})
	does(t, "P17.3: the first alone", pair{list(x, y), nil}, turned, 2, 0, 0, pair{list(x, y), nil})
	does(t, "P17.3: the second alone", pair{nil, list(u, v)}, turned, 0, 2, 0, pair{list(v, u), nil})
	does(t, "P17.3: the second alone", pair{nil, list(u, v)}, turned, 0, 0, 0, pair{nil, list(u, v)})
	for _, ij := range [][2]int{{-1, 0}, {0, -1}, {4, 0}, {0, 5}, {4, 5}, {-1, -1}, {3, 5}, {4, 4}} {
		refuses(t, "P17.3", l, turned, ij[0], ij[1], 0)
	}
	refuses(t, "P17.3: no visits", pair{}, turned, 0, 0, 0)
}

// TestSwapJobs: a job comes in, whatever the last number says.
func TestSwapJobs(t *testing.T) {
	x, y, u, v, p, d := job(0), job(1), job(2), job(3), pickup(0), delivery(0)
	for _, k := range append(wrong, 0, 1, 2, 3, 4) {
		l := pair{list(x, y), list(u, v)}
		does(t, "P17.4", l, swap, 0, 0, k, pair{list(u, y), list(v, x)})
		does(t, "P17.4", l, swap, 0, 1, k, pair{list(v, y), list(u, x)})
		does(t, "P17.4", l, swap, 1, 1, k, pair{list(x, v), list(u, y)})
		for _, ij := range [][2]int{{-1, 0}, {0, -1}, {2, 0}, {0, 2}, {2, 2}, {3, 0}, {-1, -1}} {
			refuses(t, "P17.4", l, swap, ij[0], ij[1], k)
		}
		l = pair{list(p, x, d), list(u, v)}
		does(t, "P17.4: by the pickup", l, swap, 0, 0, k, pair{list(u, x), list(v, p, d)})
		does(t, "P17.4: by the delivery, with less left", l, swap, 2, 0, k, pair{list(x, u), list(v, p, d)})
		l = pair{list(p, x, d, y), list(u, v)}
		does(t, "P17.4: by the delivery, with enough left", l, swap, 2, 1, k, pair{list(x, y, v), list(u, p, d)})
		does(t, "P17.4: nothing left", pair{list(p, d), list(u)}, swap, 1, 0, k, pair{list(u), list(p, d)})
		does(t, "P17.4: the wrong way round", pair{list(d, x, p), list(u, v)}, swap, 0, 1, k, pair{list(v, x), list(u, p, d)})
	}
	does(t, "P17.4: the same job", pair{list(x, y), list(x, v)}, swap, 0, 0, 0, pair{list(x, y), list(v, x)})
	does(t, "P17.4: what is there already", pair{list(x, u), list(u, x)}, swap, 0, 0, 0, pair{list(u, u), list(x, x)})
	refuses(t, "P17.4: one list only", pair{list(x), nil}, swap, 0, 0, 1)
	refuses(t, "P17.4: one list only", pair{nil, list(x)}, swap, 0, 0, 1)
}

// TestSwapShipments: a shipment comes in, by either visit; its delivery's place counts what is there then.
func TestSwapShipments(t *testing.T) {
	x, y, z, u, p, d, q, e := job(0), job(1), job(2), job(3), pickup(0), delivery(0), pickup(1), delivery(1)
	for _, j := range []int{0, 2} {
		l := pair{list(x, y, z), list(p, u, d)}
		does(t, "P17.4", l, swap, 0, j, 1, pair{list(p, d, y, z), list(u, x)})
		does(t, "P17.4", l, swap, 0, j, 2, pair{list(p, y, d, z), list(u, x)})
		does(t, "P17.4", l, swap, 0, j, 3, pair{list(p, y, z, d), list(u, x)})
		does(t, "P17.4", l, swap, 1, j, 2, pair{list(x, p, d, z), list(u, y)})
		does(t, "P17.4", l, swap, 1, j, 3, pair{list(x, p, z, d), list(u, y)})
		does(t, "P17.4", l, swap, 2, j, 3, pair{list(x, y, p, d), list(u, z)})
		for _, ik := range [][2]int{{0, 0}, {0, -1}, {0, 4}, {1, 1}, {1, 0}, {1, 4}, {2, 2}, {2, 4}, {2, 0}, {3, 4}, {-1, 0}, {-1, 1}} {
			refuses(t, "P17.4", l, swap, ik[0], j, ik[1])
		}
		l = pair{list(q, x, e), list(p, u, d)}
		does(t, "P17.4: by the delivery, with less left", l, swap, 2, j, 2, pair{list(x, p, d), list(u, q, e)})
		refuses(t, "P17.4: above the lesser place", l, swap, 2, j, 1)
		refuses(t, "P17.4: behind all", l, swap, 2, j, 3)
		does(t, "P17.4", l, swap, 0, j, 2, pair{list(p, x, d), list(u, q, e)})
		l = pair{list(q, e), list(p, u, d)}
		does(t, "P17.4: nothing left", l, swap, 1, j, 1, pair{list(p, d), list(u, q, e)})
		refuses(t, "P17.4: nothing left", l, swap, 1, j, 2)
		refuses(t, "P17.4: nothing left", l, swap, 1, j, 0)
	}
	does(t, "P17.4: the wrong way round", pair{list(x), list(d, u, p)}, swap, 0, 0, 1, pair{list(p, d), list(u, x)})
	does(t, "P17.4: the same shipment", pair{list(p, x, d), list(p, d)}, swap, 0, 1, 1, pair{list(p, d, x), list(p, d)})
}

// TestLastNumber: the changes that use only two numbers don't look at the third.
func TestLastNumber(t *testing.T) {
	p := pair{jobs(0, 3), jobs(3, 4)}
	for _, change := range []int{exchange, cross, tails, turned} {
		for i := -1; i <= 4; i++ {
			for j := -1; j <= 5; j++ {
				for _, k := range append(wrong, 0, 1, 2, 3, 4, 5) {
					holds(t, p, change, i, j, k)
				}
			}
		}
	}
}

// TestEach: all lists of up to four jobs, and all places in and around them.
func TestEach(t *testing.T) {
	for n := range 5 {
		for m := range 5 {
			for change := range names {
				for i := -2; i <= n+2; i++ {
					for j := -2; j <= m+2; j++ {
						for k := -1; k <= max(n, m)+2; k++ {
							holds(t, pair{jobs(0, n), jobs(n, m)}, change, i, j, k)
						}
					}
				}
			}
		}
	}
}

// fewKinds: all lists of up to so many visits of these.
func fewKinds(most int, kinds ...api.Visit) [][]api.Visit {
	lists := [][]api.Visit{nil}
	from := 0
	for range most {
		to := len(lists)
		for ; from < to; from++ {
			for _, v := range kinds {
				lists = append(lists, append(slices.Clone(lists[from]), v))
			}
		}
	}
	return lists
}

// TestTasksEach: all lists of up to three visits of few kinds, with short ones beside them.
func TestTasksEach(t *testing.T) {
	long := fewKinds(3, pickup(0), delivery(0), pickup(1), job(0))
	short := fewKinds(2, pickup(0), delivery(0), job(0), pause(0))
	for _, l := range long {
		for _, s := range short {
			for _, p := range []pair{{l, s}, {s, l}} {
				n, m := len(p.a), len(p.b)
				for i := -1; i <= n; i++ {
					for j := -1; j <= m+1; j++ {
						for k := -1; k <= max(n, m)+2; k++ {
							holds(t, p, relocate, i, j, k)
							holds(t, p, swap, i, j, k)
						}
					}
				}
			}
		}
	}
}

// TestWrongNumbers: numbers far from any place, each alone and all together.
func TestWrongNumbers(t *testing.T) {
	p := pair{list(pickup(0), job(0), delivery(0), job(1)), list(pickup(1), job(2), job(3), delivery(1))}
	for _, n := range wrong {
		for change := range names {
			for m := range 4 {
				refuses(t, "P17", p, change, n, m, 1)
				refuses(t, "P17", p, change, m, n, 1)
				refuses(t, "P17", p, change, n, n, n)
				refuses(t, "P17", pair{}, change, n, m, 1)
				refuses(t, "P17", pair{}, change, m, n, 1)
			}
			for _, m := range wrong {
				refuses(t, "P17", p, change, n, m, 1)
				refuses(t, "P17", p, change, 0, n, m)
				refuses(t, "P17", p, change, n, 0, m)
			}
		}
		for m := range 5 {
			refuses(t, "P17.1", p, relocate, 0, m, n)
			refuses(t, "P17.1", p, relocate, 2, m, n)
		}
		for m := range 4 {
			refuses(t, "P17.4", p, swap, m, 0, n)
			refuses(t, "P17.4", p, swap, m, 3, n)
		}
	}
}

// TestManyChanges: one Two, changed again and again: each change makes of it what the chapter's words say, and keeps the visits of both lists together.
func TestManyChanges(t *testing.T) {
	r := rand.New(rand.NewSource(176))
	done := make([]int, len(names))
	for round := range 600 {
		p := drawnPair(r)
		if round%2 == 0 {
			p = drawnRoutes(r)
		}
		x, held := New(p.a, p.b), p.sorted()
		for range 100 {
			change, i, j, k := r.Intn(len(names)), r.Intn(len(p.a)+3)-1, r.Intn(len(p.b)+3)-1, r.Intn(len(p.a)+len(p.b)+3)-1
			want, may := changed(p, change, i, j, k)
			if may {
				p = want
				done[change]++
			}
			if got := All()[change](x, i, j, k); got != may || !of(x).same(p) {
				t.Fatalf("P17: %s(%d, %d, %d): %v, %v, want %v, %v", names[change], i, j, k, got, of(x), may, p)
			}
			if !slices.Equal(of(x).sorted(), held) {
				t.Fatalf("P17.6: %s(%d, %d, %d): %v, of %v", names[change], i, j, k, of(x), held)
			}
		}
	}
	for change, n := range done {
		if n < 300 {
			t.Errorf("%s was done only %d times", names[change], n)
		}
	}
}
