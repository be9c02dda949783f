package short

import (
	"math"
	"slices"
	"testing"

	"haulier/api"
	"haulier/road"
)

// TestNoPlaces: a nil Graph has none, nor has one that New didn't make.
func TestNoPlaces(t *testing.T) {
	for _, g := range []*road.Graph{nil, {}} {
		if m := All(g); m.N != 0 || len(m.Cells) != 0 {
			t.Errorf("All: %v", m)
		}
		for _, p := range []int{0, 1, -1, 31, 32, math.MinInt, math.MaxInt} {
			if least, ahead := From(g, p); len(least) != 0 || len(ahead) != 0 {
				t.Errorf("From(%d): %v, %v", p, least, ahead)
			}
			for _, q := range []int{0, 1, -1, 31, 32, math.MinInt, math.MaxInt} {
				if way, w := Way(g, p, q); len(way) != 0 || w != -1 {
					t.Errorf("Way(%d, %d): %v, %d", p, q, way, w)
				}
				if w := Weigh(g, []int{p, q}); w != -1 {
					t.Errorf("Weigh of %d, %d: %d", p, q, w)
				}
			}
			if w := Weigh(g, []int{p}); w != -1 {
				t.Errorf("Weigh of %d: %d", p, w)
			}
		}
		if w := Weigh(g, nil); w != -1 {
			t.Errorf("Weigh of nothing: %d", w)
		}
	}
}

// TestWayStaysAsItIs: Weigh changes no list that is handed in, spare room included.
func TestWayStaysAsItIs(t *testing.T) {
	g := graph(t, square(), road.Time)
	lists([]int{-1, 0, 1, 2, 3, 5}, 4, func(way []int) {
		all := append(slices.Clone(way), 1, 2, -9)
		before := slices.Clone(all)
		Weigh(g, all[:len(way)])
		if !slices.Equal(all, before) {
			t.Fatalf("the list was %v, and is %v", before, all)
		}
	})
}

// spoil: the list, and what may be its spare room, is written over.
func spoil(list []int) {
	list = list[:cap(list)]
	for i := range list {
		list[i] = -77
	}
}

// TestListsChanged: lists that were answered are the caller's: no later answer, and no other list, changes with them.
func TestListsChanged(t *testing.T) {
	r := square()
	g := graph(t, r, road.Time)
	want := plainLeast(r, road.Time)
	keptLeast, keptAhead := From(g, 0)
	aheadWas := slices.Clone(keptAhead)
	keptWay, _ := Way(g, 0, 3)
	keptAll := All(g)
	for p := range r.Places {
		least, ahead := From(g, p)
		was := slices.Clone(ahead)
		spoil(least)
		if !slices.Equal(ahead, was) {
			t.Errorf("From(%d): the places ahead changed with the weights: %v, they were %v", p, ahead, was)
		}
		least, ahead = From(g, p)
		spoil(ahead)
		if !slices.Equal(least, want[p]) {
			t.Errorf("From(%d): the weights changed with the places ahead: %v", p, least)
		}
		for q := range r.Places {
			way, _ := Way(g, p, q)
			spoil(way)
		}
		spoil(All(g).Cells)
	}
	answers(t, g, want)
	if !slices.Equal(keptLeast, want[0]) || !slices.Equal(keptAhead, aheadWas) || !slices.Equal(keptWay, []int{0, 1, 2, 3}) || !slices.Equal(keptAll.Cells, slices.Concat(want...)) {
		t.Errorf("what was kept: %v, %v, %v, %v", keptLeast, keptAhead, keptWay, keptAll)
	}
	spoil(keptLeast)
	spoil(keptAhead)
	spoil(keptWay)
	spoil(keptAll.Cells)
	answers(t, g, want)
}

// TestGraphStaysAsItIs: the calls only ask it.
func TestGraphStaysAsItIs(t *testing.T) {
	r := square()
	g := graph(t, r, road.Dist)
	same := graph(t, r, road.Dist)
	answers(t, g, plainLeast(r, road.Dist))
	if g.Places() != same.Places() || g.Len() != same.Len() {
		t.Fatalf("Places %d, Len %d", g.Places(), g.Len())
	}
	for p := range r.Places {
		if !slices.Equal(g.Out(p), same.Out(p)) {
			t.Errorf("Out(%d): %v, it was %v", p, g.Out(p), same.Out(p))
		}
	}
}

// TestAskedTwice: the same graph, and another one of the same road, are answered the same, whichever was asked in between; and so is the road with its arcs in another order, which has the same graph.
func TestAskedTwice(t *testing.T) {
	r := square()
	turned := api.Road{Places: r.Places, Arcs: slices.Clone(r.Arcs)}
	slices.Reverse(turned.Arcs)
	for _, m := range metrics() {
		g := graph(t, r, m)
		for _, other := range []*road.Graph{g, graph(t, r, m), graph(t, turned, m)} {
			for p := range r.Places {
				least, ahead := From(g, p)
				From(graph(t, example(), m), 0)
				l, a := From(other, p)
				if !slices.Equal(least, l) || !slices.Equal(ahead, a) {
					t.Errorf("From(%d): %v, %v, then %v, %v", p, least, ahead, l, a)
				}
				for q := range r.Places {
					way, w := Way(g, p, q)
					Way(graph(t, example(), m), 0, 2)
					y, v := Way(other, p, q)
					if !slices.Equal(way, y) || w != v {
						t.Errorf("Way(%d, %d): %v, %d, then %v, %d", p, q, way, w, y, v)
					}
				}
			}
		}
	}
}

// TestHeavyEdges: metrics of one's own may weigh as much as an int holds: what fits is told as it is, and what doesn't is no lighter than what does.
func TestHeavyEdges(t *testing.T) {
	r := api.Road{Places: 4, Arcs: []api.Arc{
		{From: 0, To: 1, Time: 1}, {From: 1, To: 2, Time: 1}, {From: 0, To: 2, Time: 2}, {From: 2, To: 3, Time: 3},
	}}
	weights := []int{0, math.MaxInt - 5, math.MaxInt, 5}
	g := graph(t, r, func(a api.Arc) int { return weights[a.Time] })
	if m := All(g); !slices.Equal(m.Cells, []int{
		0, math.MaxInt - 5, math.MaxInt, math.MaxInt,
		-1, 0, math.MaxInt - 5, math.MaxInt,
		-1, -1, 0, 5,
		-1, -1, -1, 0,
	}) {
		t.Errorf("All: %v", m)
	}
	for _, way := range [][]int{{0, 1, 2}, {0, 2}, {0, 2, 3}, {0, 1, 2, 3}, {1, 2, 3}} {
		if w := Weigh(g, way); w != math.MaxInt {
			t.Errorf("Weigh of %v: %d", way, w)
		}
	}
	if way, w := Way(g, 1, 3); !slices.Equal(way, []int{1, 2, 3}) || w != math.MaxInt {
		t.Errorf("Way(1, 3): %v, %d", way, w)
	}
	for _, p := range []int{1, 2, 3} {
		if way, w := Way(g, 0, p); w < 0 || way[0] != 0 || way[len(way)-1] != p || Weigh(g, way) != w {
			t.Errorf("Way(0, %d): %v, %d", p, way, w)
		}
	}
}

// TestAboutTheGreatestInt: sums up to it are told as they are.
func TestAboutTheGreatestInt(t *testing.T) {
	r := api.Road{Places: 3, Arcs: []api.Arc{{From: 0, To: 1, Time: 0}, {From: 1, To: 2, Time: 1}}}
	for n := range 8 {
		g := graph(t, r, func(a api.Arc) int { return []int{math.MaxInt - 5, n}[a.Time] })
		want := math.MaxInt - max(0, 5-n)
		if w := Weigh(g, []int{0, 1, 2}); w != want {
			t.Errorf("Weigh, %d on the second edge: %d, want %d", n, w, want)
		}
		if least, _ := From(g, 0); least[2] != want {
			t.Errorf("From(0), %d on the second edge: %v, want %d", n, least, want)
		}
	}
}

// TestMetricBelowZero: of one that answers less than 0 nothing is promised but that all calls end.
func TestMetricBelowZero(t *testing.T) {
	r := api.Road{Places: 6}
	for from := range 6 {
		for to := range 6 {
			r.Arcs = append(r.Arcs, api.Arc{From: from, To: to, Time: (from*5 + to*3) % 4})
		}
	}
	for _, w := range []int{-1, -2, -3, -4, math.MinInt, math.MinInt + 2} {
		g := graph(t, r, func(a api.Arc) int { return w + a.Time })
		for p := -1; p < 7; p++ {
			From(g, p)
			for q := -1; q < 7; q++ {
				Way(g, p, q)
				Weigh(g, []int{p, q, p})
			}
		}
		All(g)
	}
}
