package road

import (
	"math"
	"math/rand"
	"slices"
	"testing"

	"haulier/api"
)

// example: that of the chapter.
func example() api.Road {
	return api.Road{Places: 3, Arcs: []api.Arc{
		{From: 0, To: 1, Time: 5, Dist: 9},
		{From: 0, To: 1, Time: 4, Dist: 12},
		{From: 1, To: 1, Time: 1, Dist: 1},
		{From: 1, To: 2},
	}}
}

// plainWeight: the least m of the arcs from a place to another one; -1, if there is none.
func plainWeight(r api.Road, m Metric, from, to int) int {
	least := -1
	for _, a := range r.Arcs {
		if a.From == from && a.To == to && from != to && (least < 0 || m(a) < least) {
			least = m(a)
		}
	}
	return least
}

// plainOut: the edges that leave a place, by all pairs.
func plainOut(weight func(from, to int) int, places, p int) []api.Edge {
	var edges []api.Edge
	for to := range places {
		if w := weight(p, to); w >= 0 {
			edges = append(edges, api.Edge{To: to, Weight: w})
		}
	}
	return edges
}

// beyond: numbers that are no places of a road of so many, whatever its arcs are.
func beyond(places int) []int {
	return []int{-1, -2, places, places + 1, api.MaxPlaces, math.MinInt, math.MaxInt}
}

// answers: does the graph answer as one of so many places with these weights?
func answers(t *testing.T, r api.Road, g *Graph, weight func(from, to int) int) {
	t.Helper()
	n := 0
	for p := range r.Places {
		want := plainOut(weight, r.Places, p)
		n += len(want)
		if got := g.Out(p); !slices.Equal(got, want) {
			t.Fatalf("%v: Out(%d): %v, want %v", r, p, got, want)
		}
		for to := range r.Places {
			if got := g.Weight(p, to); got != weight(p, to) {
				t.Fatalf("%v: Weight(%d, %d): %d, want %d", r, p, to, got, weight(p, to))
			}
		}
	}
	if g.Places() != r.Places || g.Len() != n {
		t.Fatalf("%v: Places %d, Len %d, want %d, %d", r, g.Places(), g.Len(), r.Places, n)
	}
	for _, p := range beyond(r.Places) {
		lacksPlace(t, g, p)
	}
}

// lacksPlace: has the graph nothing at this number, from and to it?
func lacksPlace(t *testing.T, g *Graph, p int) {
	t.Helper()
	if out := g.Out(p); len(out) != 0 {
		t.Fatalf("Out(%d), no place: %v", p, out)
	}
	for _, q := range append(beyond(g.Places()), 0, 1, g.Places()-1) {
		if g.Weight(p, q) != -1 || g.Weight(q, p) != -1 {
			t.Fatalf("Weight(%d, %d): %d, the other way %d, of no place", p, q, g.Weight(p, q), g.Weight(q, p))
		}
	}
}

// holds: is the graph of the road, turned, and turned twice, what the plain reckoning makes of it?
func holds(t *testing.T, r api.Road, m Metric) {
	t.Helper()
	g, e := New(r, m)
	if g == nil || e != api.OK {
		t.Fatalf("New of %v: %v, %d", r, g, e)
	}
	there := func(from, to int) int { return plainWeight(r, m, from, to) }
	back := func(from, to int) int { return plainWeight(r, m, to, from) }
	answers(t, r, g, there)
	turned := g.Turned()
	answers(t, r, turned, back)
	answers(t, r, turned.Turned(), there)
	answers(t, r, g, there)
}

// metrics: those of the package, and others that are allowed.
func metrics() []Metric {
	return []Metric{
		Time,
		Dist,
		func(a api.Arc) int { return 0 },
		func(a api.Arc) int { return 3*a.Time + a.Dist },
		func(a api.Arc) int { return math.MaxInt - a.Time },
		func(a api.Arc) int { return 10*a.From + a.To },
	}
}

func TestExample(t *testing.T) {
	r := example()
	g, e := New(r, Time)
	if e != api.OK || g.Places() != 3 || g.Len() != 2 {
		t.Fatalf("New by Time: %v, %d", g, e)
	}
	if g.Weight(0, 1) != 4 || g.Weight(1, 1) != -1 || g.Weight(1, 2) != 0 || g.Turned().Weight(1, 0) != 4 {
		t.Errorf("by Time: %v", g)
	}
	if g, e := New(r, Dist); e != api.OK || g.Weight(0, 1) != 9 {
		t.Errorf("by Dist: %v", g)
	}
	r.Arcs = append(r.Arcs, api.Arc{From: 0, To: 3})
	checks(t, "the example with an arc to no place", r, 4, api.ErrPlace)
}

func TestNoArcs(t *testing.T) {
	for _, places := range []int{1, 2, 7, api.MaxPlaces} {
		for _, none := range [][]api.Arc{nil, {}} {
			for _, m := range metrics() {
				holds(t, api.Road{Places: places, Arcs: none}, m)
			}
		}
	}
}

// rows: all roads of so many places and of at most so many arcs, each arc any of some.
func rows(places, most int, numbers [][2]int, each func(api.Road)) {
	var kinds []api.Arc
	for from := range places {
		for to := range places {
			for _, n := range numbers {
				kinds = append(kinds, api.Arc{From: from, To: to, Time: n[0], Dist: n[1]})
			}
		}
	}
	var longer func(arcs []api.Arc)
	longer = func(arcs []api.Arc) {
		each(api.Road{Places: places, Arcs: arcs})
		if len(arcs) == most {
			return
		}
		for _, a := range kinds {
			longer(append(slices.Clone(arcs), a))
		}
	}
	longer(nil)
}

func TestAllSmallRoads(t *testing.T) {
	numbers := [][2]int{{0, 2}, {1, 0}, {2, 1}}
	for _, size := range [][2]int{{1, 4}, {2, 3}, {3, 2}, {4, 2}} {
		rows(size[0], size[1], numbers, func(r api.Road) {
			for _, m := range metrics() {
				holds(t, r, m)
			}
		})
	}
	rows(3, 3, numbers[:2], func(r api.Road) {
		holds(t, r, Time)
		holds(t, r, Dist)
	})
}

// TestAnyOrderOfArcs: arcs of one pair, and of others between them, in each order.
func TestAnyOrderOfArcs(t *testing.T) {
	arcs := []api.Arc{
		{From: 2, To: 0, Time: 7, Dist: 1},
		{From: 2, To: 0, Time: 3, Dist: 5},
		{From: 2, To: 0, Time: 5, Dist: 3},
		{From: 0, To: 2, Time: 1, Dist: 9},
		{From: 2, To: 2, Time: 0, Dist: 0},
		{From: 2, To: 1, Time: 4, Dist: 4},
	}
	orders(arcs, 0, func(arcs []api.Arc) {
		r := api.Road{Places: 3, Arcs: arcs}
		for _, m := range metrics() {
			holds(t, r, m)
		}
		byTime, _ := New(r, Time)
		byDist, _ := New(r, Dist)
		if byTime.Len() != 3 || byTime.Weight(2, 0) != 3 || byDist.Len() != 3 || byDist.Weight(2, 0) != 1 {
			t.Fatalf("%v: by Time %v, by Dist %v", arcs, byTime, byDist)
		}
	})
}

// orders: each order of a list, from a place on.
func orders(arcs []api.Arc, from int, each func([]api.Arc)) {
	if from == len(arcs) {
		each(slices.Clone(arcs))
		return
	}
	for i := from; i < len(arcs); i++ {
		arcs[from], arcs[i] = arcs[i], arcs[from]
		orders(arcs, from+1, each)
		arcs[from], arcs[i] = arcs[i], arcs[from]
	}
}

func TestManyRoads(t *testing.T) {
	draw := rand.New(rand.NewSource(5))
	for range 2000 {
		r := drawn(draw, 1+draw.Intn(8), draw.Intn(20), 1+draw.Intn(6))
		for _, m := range metrics() {
			holds(t, r, m)
		}
	}
	for range 100 {
		r := drawn(draw, 1+draw.Intn(api.MaxPlaces), draw.Intn(api.MaxArcs+1), api.MaxNumber+1)
		for _, m := range metrics() {
			holds(t, r, m)
		}
	}
}

// drawn: a road of so many places and arcs, with numbers below a bound.
func drawn(draw *rand.Rand, places, arcs, bound int) api.Road {
	r := api.Road{Places: places}
	for range arcs {
		r.Arcs = append(r.Arcs, api.Arc{From: draw.Intn(places), To: draw.Intn(places), Time: draw.Intn(bound), Dist: draw.Intn(bound)})
	}
	return r
}

// TestGreatRoads: MaxPlaces places and MaxArcs arcs: each to several others, all from one, all of one pair, all from a place to itself.
func TestGreatRoads(t *testing.T) {
	shapes := []func(i int) (int, int){
		func(i int) (int, int) { return i % 32, (i + i/32 + 1) % 32 },
		func(i int) (int, int) { return 31, 255 - i - (255-i)/32*32 },
		func(i int) (int, int) { return 255 % 32, 0 },
		func(i int) (int, int) { return i % 32, i % 32 },
	}
	for k, shape := range shapes {
		r := api.Road{Places: api.MaxPlaces}
		for i := range api.MaxArcs {
			from, to := shape(i)
			r.Arcs = append(r.Arcs, api.Arc{From: from, To: to, Time: api.MaxNumber - i*7%256, Dist: i * 11 % 256})
		}
		for _, m := range metrics() {
			holds(t, r, m)
		}
		g, _ := New(r, Time)
		if want := []int{256, 31, 1, 0}[k]; g.Len() != want {
			t.Errorf("shape %d: Len %d, want %d", k, g.Len(), want)
		}
	}
}
