package road

import (
	"math"
	"slices"
	"testing"

	"haulier/api"
)

func TestNilGraph(t *testing.T) {
	var g *Graph
	if g.Places() != 0 || g.Len() != 0 || g.Turned() != nil {
		t.Errorf("nil: Places %d, Len %d, Turned %v", g.Places(), g.Len(), g.Turned())
	}
	for _, p := range []int{0, 1, -1, 31, math.MinInt, math.MaxInt} {
		if out := g.Out(p); len(out) != 0 {
			t.Errorf("nil: Out(%d): %v", p, out)
		}
		for _, q := range []int{0, 1, -1, 31, math.MinInt, math.MaxInt} {
			if g.Weight(p, q) != -1 {
				t.Errorf("nil: Weight(%d, %d): %d", p, q, g.Weight(p, q))
			}
		}
	}
}

// TestZeroGraph: a Graph that New didn't make has no places.
func TestZeroGraph(t *testing.T) {
	g := &Graph{}
	for _, g := range []*Graph{g, g.Turned(), g.Turned().Turned()} {
		if g == nil || g.Places() != 0 || g.Len() != 0 {
			t.Fatalf("zero: %v", g)
		}
		for _, p := range []int{0, 1, -1, math.MinInt, math.MaxInt} {
			lacksPlace(t, g, p)
		}
	}
}

// roomy: the same road, whose arcs have spare room with something in it; and all of that.
func roomy(r api.Road) (api.Road, []api.Arc) {
	all := append(slices.Clone(r.Arcs), api.Arc{From: 1, To: 2, Time: 3, Dist: 4}, api.Arc{From: -9, To: 99, Time: -9})
	return api.Road{Places: r.Places, Arcs: all[:len(r.Arcs)]}, all
}

// TestRoadStaysAsItIs: neither Check nor New changes what is handed in, spare room included, whether they refuse it or not.
func TestRoadStaysAsItIs(t *testing.T) {
	wrong := example()
	wrong.Arcs = append(wrong.Arcs, api.Arc{From: 0, To: 3}, api.Arc{Time: -1})
	for _, was := range []api.Road{example(), wrong, {Places: 33}, {Places: 1}} {
		r, all := roomy(was)
		before := slices.Clone(all)
		Check(r)
		for _, m := range metrics() {
			if g, e := New(r, m); e == api.OK {
				g.Turned()
				g.Out(0)
			}
		}
		if !slices.Equal(all, before) {
			t.Errorf("the arcs were %v, and are %v", before, all)
		}
	}
}

// TestRoadChangedBehindNew: the graph stays what it was.
func TestRoadChangedBehindNew(t *testing.T) {
	r := example()
	g, _ := New(r, Time)
	turned := g.Turned()
	for i := range r.Arcs {
		r.Arcs[i] = api.Arc{From: 2, To: 0, Time: 77, Dist: 77}
	}
	r.Places = 1
	there := func(from, to int) int { return plainWeight(example(), Time, from, to) }
	back := func(from, to int) int { return plainWeight(example(), Time, to, from) }
	answers(t, example(), g, there)
	answers(t, example(), turned, back)
	answers(t, example(), g.Turned(), back)
}

// spoil: the list, and what may be its spare room, is written over.
func spoil(edges []api.Edge) {
	edges = edges[:cap(edges)]
	for i := range edges {
		edges[i] = api.Edge{To: -7, Weight: -77}
	}
}

// TestListsChanged: lists that were answered are the caller's: neither the graph nor other lists change with them.
func TestListsChanged(t *testing.T) {
	r := api.Road{Places: 4, Arcs: []api.Arc{
		{From: 0, To: 3, Time: 1}, {From: 0, To: 1, Time: 2}, {From: 0, To: 2, Time: 3},
		{From: 1, To: 0, Time: 4}, {From: 2, To: 3, Time: 5}, {From: 2, To: 0, Time: 6}, {From: 3, To: 0, Time: 7},
	}}
	g, _ := New(r, Time)
	turned := g.Turned()
	there := func(from, to int) int { return plainWeight(r, Time, from, to) }
	back := func(from, to int) int { return plainWeight(r, Time, to, from) }
	var kept [][]api.Edge
	for p := range 4 {
		kept = append(kept, g.Out(p), turned.Out(p))
	}
	for p := -1; p < 5; p++ {
		spoil(g.Out(p))
		spoil(turned.Out(p))
		spoil(g.Turned().Out(p))
		spoil(turned.Turned().Out(p))
	}
	answers(t, r, g, there)
	answers(t, r, turned, back)
	for p := range 4 {
		if !slices.Equal(kept[2*p], plainOut(there, 4, p)) || !slices.Equal(kept[2*p+1], plainOut(back, 4, p)) {
			t.Errorf("Out(%d), as it was kept: %v, turned %v", p, kept[2*p], kept[2*p+1])
		}
		spoil(kept[2*p])
		spoil(kept[2*p+1])
	}
	answers(t, r, g, there)
	answers(t, r, turned, back)
}

// TestMetricIsAsked: only during New, and only about arcs from a place to another one.
func TestMetricIsAsked(t *testing.T) {
	r := example()
	over := false
	asked := map[api.Arc]int{}
	g, e := New(r, func(a api.Arc) int {
		if over {
			t.Errorf("asked about %v behind New", a)
		}
		asked[a]++
		return a.Time
	})
	over = true
	answers(t, r, g, func(from, to int) int { return plainWeight(r, Time, from, to) })
	g.Turned()
	if e != api.OK || len(asked) != 3 || asked[r.Arcs[0]] == 0 || asked[r.Arcs[1]] == 0 || asked[r.Arcs[3]] == 0 {
		t.Errorf("asked about %v", asked)
	}
}

// TestMetricThatWrites: one that writes to the road that was checked does no harm to the graph.
func TestMetricThatWrites(t *testing.T) {
	r := example()
	g, e := New(r, func(a api.Arc) int {
		for i := range r.Arcs {
			r.Arcs[i] = api.Arc{From: 99, To: -99, Time: -1}
		}
		return a.Time
	})
	if e != api.OK {
		t.Fatalf("New: %d", e)
	}
	answers(t, example(), g, func(from, to int) int { return plainWeight(example(), Time, from, to) })
}

// TestMetricBelowZero: of one that answers less than 0 nothing is promised but that all calls end.
func TestMetricBelowZero(t *testing.T) {
	for _, w := range []int{-1, -2, math.MinInt} {
		g, e := New(example(), func(a api.Arc) int { return w + a.Time })
		if e != api.OK || g.Places() != 3 {
			t.Errorf("New: %v, %d", g, e)
		}
		for p := -1; p < 4; p++ {
			g.Out(p)
			g.Turned().Out(p)
			g.Weight(p, 1)
		}
		g.Len()
	}
}

// TestGraphsAreApart: what one graph is hangs on no other one, be it older or newer; and asked twice it answers the same.
func TestGraphsAreApart(t *testing.T) {
	r := example()
	byTime, _ := New(r, Time)
	byDist, _ := New(r, Dist)
	other, _ := New(api.Road{Places: 2, Arcs: []api.Arc{{From: 1, To: 0, Time: 8}}}, Time)
	for range 2 {
		answers(t, r, byTime, func(from, to int) int { return plainWeight(r, Time, from, to) })
		answers(t, r, byDist, func(from, to int) int { return plainWeight(r, Dist, from, to) })
		if other.Places() != 2 || other.Len() != 1 || other.Weight(1, 0) != 8 || other.Weight(0, 1) != -1 {
			t.Errorf("the other: %v", other)
		}
	}
}
