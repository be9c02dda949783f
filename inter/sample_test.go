package inter

import (
	"math"
	"math/rand"
	"slices"

	"haulier/api"
)

func job(n int) api.Visit { return api.Visit{Kind: api.AtJob, Item: n} }

func pickup(n int) api.Visit { return api.Visit{Kind: api.AtPickup, Item: n} }

func delivery(n int) api.Visit { return api.Visit{Kind: api.AtDelivery, Item: n} }

func pause(n int) api.Visit { return api.Visit{Kind: api.AtBreak, Item: n} }

func list(v ...api.Visit) []api.Visit { return slices.Clone(v) }

// jobs: so many, each another one, from a number on.
func jobs(from, count int) []api.Visit {
	var l []api.Visit
	for i := range count {
		l = append(l, job(from+i))
	}
	return l
}

// pair is two lists.
type pair struct{ a, b []api.Visit }

// of: the lists of a Two as they are now.
func of(t *Two) pair {
	a, b := t.Visits()
	return pair{a, b}
}

func (p pair) same(q pair) bool { return slices.Equal(p.a, q.a) && slices.Equal(p.b, q.b) }

// sorted: the visits of both lists, by their kinds and items.
func (p pair) sorted() []api.Visit {
	l := slices.Concat(p.a, p.b)
	slices.SortFunc(l, func(a, b api.Visit) int {
		switch {
		case a == b:
			return 0
		case a.Kind < b.Kind || a.Kind == b.Kind && a.Item < b.Item:
			return -1
		}
		return 1
	})
	return l
}

// names: of the changes, in the order of All.
var names = []string{"Relocate", "Exchange", "Cross", "Tails", "Turned", "Swap"}

// The changes' places in All.
const (
	relocate = iota
	exchange
	cross
	tails
	turned
	swap
)

// wrong: numbers that are no places of any list here.
var wrong = []int{math.MinInt, math.MinInt + 1, math.MinInt + 2, math.MinInt + 3, -1 << 62, -1 << 32, -3, -2, -1, 1 << 32, 1 << 62, math.MaxInt - 3, math.MaxInt - 2, math.MaxInt - 1, math.MaxInt}

// changed: what two lists become by a change, as the chapter's words say it, place by place; false: it may not be.
func changed(p pair, change, i, j, k int) (pair, bool) {
	n, m := len(p.a), len(p.b)
	switch change {
	case relocate:
		return relocated(p, i, j, k)
	case exchange:
		if i < 0 || i >= n || j < 0 || j >= m {
			return pair{}, false
		}
		q := pair{slices.Clone(p.a), slices.Clone(p.b)}
		q.a[i], q.b[j] = p.b[j], p.a[i]
		return q, true
	case cross:
		if i < 0 || i >= n-1 || j < 0 || j >= m-1 {
			return pair{}, false
		}
		q, _ := changed(p, exchange, i, j, 0)
		return changed(q, exchange, i+1, j+1, 0)
	case tails:
		if i < 0 || i > n || j < 0 || j > m || i == n && j == m {
			return pair{}, false
		}
		return pair{made(i+m-j, func(at int) api.Visit {
			if at < i {
				return p.a[at]
			}
			return p.b[at-i+j]
		}), made(j+n-i, func(at int) api.Visit {
			if at < j {
				return p.b[at]
			}
			return p.a[at-j+i]
		})}, true
	case turned:
		if i < 0 || i > n || j < 0 || j > m || n == 0 && m == 0 {
			return pair{}, false
		}
		return pair{made(i+j, func(at int) api.Visit {
			if at < i {
				return p.a[at]
			}
			return p.b[j-1-(at-i)]
		}), made(n-i+m-j, func(at int) api.Visit {
			if at < n-i {
				return p.a[n-1-at]
			}
			return p.b[at-(n-i)+j]
		})}, true
	}
	return swapped(p, i, j, k)
}

// made: so many visits, place by place.
func made(count int, visit func(at int) api.Visit) []api.Visit {
	var l []api.Visit
	for at := range count {
		l = append(l, visit(at))
	}
	return l
}

// parted: the visits of the task of the list's i-th, in their order, and the others; false: it isn't there, of no task, or its task isn't whole.
func parted(l []api.Visit, i int) (own, rest []api.Visit, may bool) {
	if i < 0 || i >= len(l) {
		return nil, nil, false
	}
	var jobs, picks, drops []api.Visit
	ship := l[i].Kind == api.AtPickup || l[i].Kind == api.AtDelivery
	for _, v := range l {
		switch {
		case v.Item == l[i].Item && !ship && v.Kind == api.AtJob:
			jobs = append(jobs, v)
		case v.Item == l[i].Item && ship && v.Kind == api.AtPickup:
			picks = append(picks, v)
		case v.Item == l[i].Item && ship && v.Kind == api.AtDelivery:
			drops = append(drops, v)
		default:
			rest = append(rest, v)
		}
	}
	if ship {
		return append(picks, drops...), rest, len(picks) == 1 && len(drops) == 1
	}
	return jobs, rest, l[i].Kind == api.AtJob && len(jobs) == 1
}

// filled: one visit stands at j, or two at j and k; the others fill the rest.
func filled(own, others []api.Visit, j, k int) ([]api.Visit, bool) {
	if j < 0 || j > len(others) || len(own) == 2 && (k <= j || k > len(others)+1) {
		return nil, false
	}
	return made(len(own)+len(others), func(at int) api.Visit {
		switch {
		case at == j:
			return own[0]
		case at == k && len(own) == 2:
			return own[1]
		}
		v := others[0]
		others = others[1:]
		return v
	}), true
}

// relocated: what Relocate makes of two lists.
func relocated(p pair, i, j, k int) (pair, bool) {
	own, rest, may := parted(p.a, i)
	if !may {
		return pair{}, false
	}
	b, may := filled(own, p.b, j, k)
	if !may {
		return pair{}, false
	}
	return pair{rest, b}, true
}

// swapped: what Swap makes of two lists.
func swapped(p pair, i, j, k int) (pair, bool) {
	first, restA, may := parted(p.a, i)
	second, restB, mayToo := parted(p.b, j)
	if !may || !mayToo {
		return pair{}, false
	}
	f := i
	if f > len(restA) {
		f = len(restA)
	}
	a, may := filled(second, restA, f, k)
	if !may {
		return pair{}, false
	}
	return pair{a, append(restB, first...)}, true
}

// drawnVisit: of few items, so that many are there twice; now and then of no kind, or of no item.
func drawnVisit(r *rand.Rand) api.Visit {
	v := api.Visit{Kind: api.VisitKind(1 + r.Intn(4)), Item: r.Intn(4)}
	if r.Intn(12) == 0 {
		v.Kind = api.VisitKind(r.Intn(10) - 1)
	}
	if r.Intn(12) == 0 {
		v.Item = []int{-1, math.MinInt, math.MaxInt, 1 << 32, 1<<32 + 1}[r.Intn(5)]
	}
	return v
}

// drawnPair: of up to nine visits each, any ones.
func drawnPair(r *rand.Rand) pair {
	return pair{made(r.Intn(10), func(int) api.Visit { return drawnVisit(r) }), made(r.Intn(10), func(int) api.Visit { return drawnVisit(r) })}
}

// drawnRoutes: as routes may be: jobs and shipments, each once, whole in one of both, in any order.
func drawnRoutes(r *rand.Rand) pair {
	var p pair
	for i := range r.Intn(7) {
		if r.Intn(2) == 0 {
			p.a = append(p.a, job(i))
		} else {
			p.b = append(p.b, job(i))
		}
	}
	for i := range r.Intn(5) {
		if r.Intn(2) == 0 {
			p.a = append(p.a, pickup(i), delivery(i))
		} else {
			p.b = append(p.b, pickup(i), delivery(i))
		}
	}
	for _, l := range [][]api.Visit{p.a, p.b} {
		r.Shuffle(len(l), func(a, b int) { l[a], l[b] = l[b], l[a] })
	}
	return p
}
