package climb

import (
	"math"
	"math/rand"
	"slices"
	"testing"

	"haulier/api"
	"haulier/lift"
	"haulier/road"
)

// square: 0 to 1 to 2 to 3 to 0, and back from 2 to 1; some edges weigh nothing; place 4 stands alone.
func square() api.Road {
	return api.Road{Places: 5, Arcs: []api.Arc{
		{From: 0, To: 1, Time: 4, Dist: 0},
		{From: 1, To: 2, Time: 0, Dist: 7},
		{From: 2, To: 3, Time: 3, Dist: 0},
		{From: 3, To: 0, Time: 0, Dist: 0},
		{From: 2, To: 1, Time: 5, Dist: 2},
		{From: 2, To: 1, Time: 6, Dist: 1},
		{From: 2, To: 2, Time: 0, Dist: 0},
	}}
}

// some: roads of several kinds, small and great.
func some() []api.Road {
	draw := rand.New(rand.NewSource(83))
	roads := []api.Road{example(), square(), great(func(i int) api.Arc {
		return api.Arc{From: i % 32, To: (i%32 + i/32 + 1) % 32, Time: i / 32, Dist: 1}
	})}
	for range 20 {
		roads = append(roads, drawn(draw, 1+draw.Intn(10), draw.Intn(40), 1+draw.Intn(5)))
	}
	return roads
}

// lists: all that the calls answer of a lifted graph, as lists of numbers: of each place both lists of Reached, upwards and downwards, of each pair the way, and its weight beside its Dist, and the table's cells.
func lists(l *lift.Lifted) [][]int {
	var all [][]int
	for p := range l.Places() {
		for _, up := range []bool{true, false} {
			places, weights := Reached(l, p, up)
			all = append(all, places, weights)
		}
		for q := range l.Places() {
			way, w := Way(l, p, q)
			all = append(all, way, []int{w, Dist(l, p, q)})
		}
	}
	return append(all, Table(l).Cells)
}

// same: are these the same numbers?
func same(a, b [][]int) bool {
	return slices.EqualFunc(a, b, func(x, y []int) bool { return slices.Equal(x, y) })
}

// copied: the lists, in other memory.
func copied(all [][]int) [][]int {
	var kept [][]int
	for _, list := range all {
		kept = append(kept, slices.Clone(list))
	}
	return kept
}

// TestNothing: a nil Lifted has no places, nor has one that Build didn't make, or made of a graph that New didn't make.
func TestNothing(t *testing.T) {
	numbers := []int{0, 1, -1, 31, 32, math.MinInt, math.MaxInt}
	for _, l := range []*lift.Lifted{nil, {}, lift.Build(nil), lift.Build(&road.Graph{})} {
		if m := Table(l); m.N != 0 || len(m.Cells) != 0 {
			t.Errorf("Table: %v", m)
		}
		for _, p := range numbers {
			for _, up := range []bool{true, false} {
				if places, weights := Reached(l, p, up); len(places) != 0 || len(weights) != 0 {
					t.Errorf("Reached(%d, %v): %v, %v", p, up, places, weights)
				}
			}
			for _, q := range numbers {
				if w := Dist(l, p, q); w != -1 {
					t.Errorf("Dist(%d, %d): %d", p, q, w)
				}
				if way, w := Way(l, p, q); len(way) != 0 || w != -1 {
					t.Errorf("Way(%d, %d): %v, %d", p, q, way, w)
				}
			}
		}
	}
}

// TestNoSuchPlaces: of numbers that are no places nothing is reached, and no way leads from them or to them, not even to themselves.
func TestNoSuchPlaces(t *testing.T) {
	for _, r := range append(some(), api.Road{Places: 1}, api.Road{Places: api.MaxPlaces}) {
		for _, m := range []road.Metric{road.Time, road.Dist} {
			g := graph(t, r, m)
			lacks(t, lift.Build(g))
			lacks(t, lift.Build(g.Turned()))
		}
	}
}

// spoil: the list, and what may be its spare room, is written over.
func spoil(list []int) {
	list = list[:cap(list)]
	for i := range list {
		list[i] = -77
	}
}

// TestListsChanged: lists that were answered are the caller's: no later answer, and no other list, of the same answer or of another one, changes with them.
func TestListsChanged(t *testing.T) {
	for _, r := range some() {
		l := lift.Build(graph(t, r, road.Time))
		all := lists(l)
		want := copied(all)
		for i := range all {
			spoil(all[i])
			if !same(all[i+1:], want[i+1:]) {
				t.Fatalf("%v: the lists behind the one of number %d changed with it", r, i)
			}
		}
		if again := lists(l); !same(again, want) {
			t.Fatalf("%v: answered anew: %v, want %v", r, again, want)
		}
		all = lists(l)
		for i := len(all) - 1; i >= 0; i-- {
			spoil(all[i])
			if !same(all[:i], want[:i]) {
				t.Fatalf("%v: the lists ahead of the one of number %d changed with it", r, i)
			}
		}
		if again := lists(l); !same(again, want) {
			t.Fatalf("%v: answered anew: %v, want %v", r, again, want)
		}
	}
}

// TestLiftedStaysAsItIs: the calls only ask it, and what they answered needs it no more.
func TestLiftedStaysAsItIs(t *testing.T) {
	for _, r := range some() {
		l, untouched := lift.Build(graph(t, r, road.Dist)), lift.Build(graph(t, r, road.Dist))
		all := lists(l)
		want := copied(all)
		if !slices.Equal(l.Links(), untouched.Links()) {
			t.Fatalf("%v: Links: %v, they were %v", r, l.Links(), untouched.Links())
		}
		for p := range r.Places {
			if l.Rank(p) != untouched.Rank(p) || !slices.Equal(l.Up(p), untouched.Up(p)) || !slices.Equal(l.Down(p), untouched.Down(p)) {
				t.Fatalf("%v: place %d isn't as it was", r, p)
			}
		}
		*l = lift.Lifted{}
		if !same(all, want) {
			t.Fatalf("%v: without the lifted graph: %v, want %v", r, all, want)
		}
	}
}

// TestAskedTwice: the same lifted graph, and another one of the same road, are answered the same, ways too, whatever was asked in between.
func TestAskedTwice(t *testing.T) {
	for _, r := range some() {
		for _, m := range metrics() {
			l := lift.Build(graph(t, r, m))
			want := lists(l)
			for _, other := range []*lift.Lifted{l, lift.Build(graph(t, r, m))} {
				lists(lift.Build(graph(t, square(), m)))
				if got := lists(other); !same(got, want) {
					t.Fatalf("%v: asked again: %v, it was %v", r, got, want)
				}
			}
		}
	}
}

// TestHeavyEdges: metrics of one's own may weigh as much as an int holds: what fits is told as it is, and what doesn't is no lighter than what does.
func TestHeavyEdges(t *testing.T) {
	draw := rand.New(rand.NewSource(84))
	weights := []int{0, 5, math.MaxInt - 5, math.MaxInt - 4, math.MaxInt}
	for range 500 {
		r := drawn(draw, 3+draw.Intn(5), 4+draw.Intn(20), len(weights))
		holds(t, r, func(a api.Arc) int { return weights[a.Time] })
	}
}

// TestMetricBelowZero: of one that answers less than 0 nothing is promised but that all calls end, where some pairs, or all pairs of places are joined.
func TestMetricBelowZero(t *testing.T) {
	r := api.Road{Places: 16}
	for from := range 16 {
		for to := range 16 {
			r.Arcs = append(r.Arcs, api.Arc{From: from, To: to, Time: (from*5 + to*3) % 4})
		}
	}
	ring := great(func(i int) api.Arc { return api.Arc{From: i % 32, To: (i%32 + i/32 + 1) % 32, Time: i % 3} })
	for _, r := range []api.Road{square(), r, ring} {
		for _, w := range []int{-1, -2, -3, -4, math.MinInt, math.MinInt + 2} {
			l := lift.Build(graph(t, r, func(a api.Arc) int { return w + a.Time }))
			lists(l)
		}
	}
}
