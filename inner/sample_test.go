package inner

import (
	"math"
	"math/rand"
	"slices"

	"haulier/api"
)

func job(n int) api.Visit { return api.Visit{Kind: api.AtJob, Item: n} }

func pickup(n int) api.Visit { return api.Visit{Kind: api.AtPickup, Item: n} }

func delivery(n int) api.Visit { return api.Visit{Kind: api.AtDelivery, Item: n} }

func pause(n int) api.Visit { return api.Visit{Kind: api.AtBreak, Item: n} }

func list(v ...api.Visit) []api.Visit { return slices.Clone(v) }

// jobs: so many, each another one.
func jobs(n int) []api.Visit {
	var l []api.Visit
	for i := range n {
		l = append(l, job(i))
	}
	return l
}

// names: of the changes, in the order of All.
var names = []string{"TwoOpt", "OrOpt", "Relocate", "Exchange", "Mixed", "Pair"}

// The changes' places in All.
const (
	twoOpt = iota
	orOpt
	relocate
	exchange
	mixed
	pair
)

// wrong: numbers that are no places of any list here.
var wrong = []int{math.MinInt, math.MinInt + 1, math.MinInt + 2, math.MinInt + 3, -1 << 62, -1 << 32, -3, -2, -1, 1 << 32, 1 << 62, math.MaxInt - 3, math.MaxInt - 2, math.MaxInt - 1, math.MaxInt}

// changed: what a list becomes by a change, as the chapter's words say it, place by place: which visit stands there now; false: it may not be.
func changed(l []api.Visit, change, i, j, k int) ([]api.Visit, bool) {
	n := len(l)
	switch change {
	case twoOpt:
		return placed(l, 0 <= i && i < j && j < n, func(at int) int {
			if i <= at && at <= j {
				return i + j - at
			}
			return at
		})
	case orOpt:
		if k < 1 || k > 3 || i < 0 || j < 0 || i > n-k || j > n-k || i == j {
			return nil, false
		}
		return moved(l, i, j, k), true
	case relocate:
		return changed(l, orOpt, i, j, 1)
	case exchange:
		return placed(l, 0 <= i && i < j && j < n, func(at int) int {
			switch at {
			case i:
				return j
			case j:
				return i
			}
			return at
		})
	case mixed:
		if i < 0 || i > n-1 || j < 0 || j > n-2 || i == j || i == j+1 {
			return nil, false
		}
		return twoForOne(l, i, j), true
	}
	return paired(l, i, j, k)
}

// placed: the list with the visit of another place at each place.
func placed(l []api.Visit, may bool, from func(at int) int) ([]api.Visit, bool) {
	if !may {
		return nil, false
	}
	var r []api.Visit
	for at := range l {
		r = append(r, l[from(at)])
	}
	return r, true
}

// moved: m visits go out one by one, and in again one by one.
func moved(l []api.Visit, i, j, m int) []api.Visit {
	r := slices.Clone(l)
	var out []api.Visit
	for range m {
		out = append(out, r[i])
		r = slices.Delete(r, i, i+1)
	}
	for at, v := range out {
		r = slices.Insert(r, j+at, v)
	}
	return r
}

// twoForOne: gone through place by place, with the two told where the one stood, and the one where the two stood.
func twoForOne(l []api.Visit, i, j int) []api.Visit {
	var r []api.Visit
	for at, v := range l {
		switch at {
		case i:
			r = append(r, l[j], l[j+1])
		case j:
			r = append(r, l[i])
		case j + 1:
		default:
			r = append(r, v)
		}
	}
	return r
}

// paired: what Pair makes of a list: the pickup stands at j, the delivery at k, the others fill the rest.
func paired(l []api.Visit, i, j, k int) ([]api.Visit, bool) {
	n := len(l)
	if i < 0 || i >= n || l[i].Kind != api.AtPickup && l[i].Kind != api.AtDelivery {
		return nil, false
	}
	var picks, drops, rest []api.Visit
	for _, v := range l {
		switch {
		case v.Item == l[i].Item && v.Kind == api.AtPickup:
			picks = append(picks, v)
		case v.Item == l[i].Item && v.Kind == api.AtDelivery:
			drops = append(drops, v)
		default:
			rest = append(rest, v)
		}
	}
	if len(picks) != 1 || len(drops) != 1 || j < 0 || j > n-2 || k <= j || k > n-1 {
		return nil, false
	}
	var r []api.Visit
	for at := range n {
		switch at {
		case j:
			r = append(r, picks[0])
		case k:
			r = append(r, drops[0])
		default:
			r, rest = append(r, rest[0]), rest[1:]
		}
	}
	return r, true
}

// drawnVisit: of few items, so that many are there twice; now and then of no kind, or of no item.
func drawnVisit(r *rand.Rand) api.Visit {
	v := api.Visit{Kind: api.VisitKind(1 + r.Intn(4)), Item: r.Intn(4)}
	if r.Intn(12) == 0 {
		v.Kind = api.VisitKind(r.Intn(10) - 1)
	}
	if r.Intn(12) == 0 {
		v.Item = []int{-1, math.MinInt, math.MaxInt, 1 << 32, 1<<32 + 1}[r.Intn(5)]
	}
	return v
}

// drawnLine: of up to nine visits.
func drawnLine(r *rand.Rand) []api.Visit {
	var l []api.Visit
	for range r.Intn(10) {
		l = append(l, drawnVisit(r))
	}
	return l
}

// drawnRoute: as a route may be: jobs and shipments, each once, in any order.
func drawnRoute(r *rand.Rand) []api.Visit {
	l := jobs(r.Intn(4))
	for i := range r.Intn(4) {
		l = append(l, pickup(i), delivery(i))
	}
	r.Shuffle(len(l), func(a, b int) { l[a], l[b] = l[b], l[a] })
	return l
}
