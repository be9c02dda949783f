package lift

import (
	"math"
	"math/rand"
	"slices"
	"testing"

	"haulier/api"
	"haulier/road"
)

// square: 0 to 1 to 2 to 3 to 0, and back from 2 to 1; some edges weigh nothing; place 4 stands alone.
func square() api.Road {
	return api.Road{Places: 5, Arcs: []api.Arc{
		{From: 0, To: 1, Time: 4, Dist: 0},
		{From: 1, To: 2, Time: 0, Dist: 7},
		{From: 2, To: 3, Time: 3, Dist: 0},
		{From: 3, To: 0, Time: 0, Dist: 0},
		{From: 2, To: 1, Time: 5, Dist: 2},
		{From: 2, To: 1, Time: 6, Dist: 1},
		{From: 2, To: 2, Time: 0, Dist: 0},
	}}
}

// told: all that a lifted graph answers.
type told struct {
	ranks    []int
	up, down [][]api.Link
	links    []api.Link
}

// tell: all answers of its calls.
func tell(l *Lifted) told {
	var a told
	for p := range l.Places() {
		a.ranks = append(a.ranks, l.Rank(p))
		a.up = append(a.up, l.Up(p))
		a.down = append(a.down, l.Down(p))
	}
	a.links = l.Links()
	return a
}

// equal: are these the same answers, in the same order?
func equal(a, b told) bool {
	lists := func(x, y [][]api.Link) bool {
		return slices.EqualFunc(x, y, func(p, q []api.Link) bool { return slices.Equal(p, q) })
	}
	return slices.Equal(a.ranks, b.ranks) && lists(a.up, b.up) && lists(a.down, b.down) && slices.Equal(a.links, b.links)
}

// TestNothing: Build of nil is nil, and that answers as a graph without places does; so does one that Build didn't make, and one of a graph that New didn't make.
func TestNothing(t *testing.T) {
	if Build(nil) != nil {
		t.Error("Build(nil) is something")
	}
	for _, l := range []*Lifted{nil, {}, Build(&road.Graph{})} {
		if l.Places() != 0 || len(l.Links()) != 0 {
			t.Errorf("Places: %d, Links: %v", l.Places(), l.Links())
		}
		for _, p := range []int{0, 1, -1, 31, 32, math.MinInt, math.MaxInt} {
			if l.Rank(p) != -1 || len(l.Up(p)) != 0 || len(l.Down(p)) != 0 {
				t.Errorf("%d: rank %d, Up %v, Down %v", p, l.Rank(p), l.Up(p), l.Down(p))
			}
		}
	}
}

// TestLiftedAgain: the same graph, another one of the same road, and one of the road with its arcs in another order, which is the same graph, have the same ranks and links, whatever was lifted in between.
func TestLiftedAgain(t *testing.T) {
	draw := rand.New(rand.NewSource(71))
	roads := []api.Road{square(), ringAbout(4), great(func(i int) api.Arc {
		return api.Arc{From: i % 32, To: (i%32 + i/32 + 1) % 32, Time: i / 32, Dist: 1}
	})}
	for range 40 {
		roads = append(roads, drawn(draw, 1+draw.Intn(14), draw.Intn(70), 1+draw.Intn(5)))
	}
	for _, r := range roads {
		turned := api.Road{Places: r.Places, Arcs: slices.Clone(r.Arcs)}
		slices.Reverse(turned.Arcs)
		for _, m := range metrics() {
			g := graph(t, r, m)
			first := Build(g)
			want := tell(first)
			for _, other := range []*road.Graph{g, graph(t, r, m), graph(t, turned, m)} {
				Build(graph(t, square(), m))
				if got := tell(Build(other)); !equal(got, want) {
					t.Fatalf("%v: lifted again: %v, it was %v", r, got, want)
				}
			}
			if got := tell(first); !equal(got, want) {
				t.Fatalf("%v: asked again: %v, it was %v", r, got, want)
			}
		}
	}
}

// spoil: the list, and what may be its spare room, is written over.
func spoil(list []api.Link) {
	list = list[:cap(list)]
	for i := range list {
		list[i] = api.Link{From: -77, To: -77, Weight: -77, Mid: -77}
	}
}

// TestListsChanged: lists that were answered are the caller's: no later answer, and no other list, changes with them.
func TestListsChanged(t *testing.T) {
	for _, r := range []api.Road{square(), ringAbout(5)} {
		l := Build(graph(t, r, road.Time))
		want, kept := tell(l), tell(l)
		for p := range l.Places() {
			spoil(l.Up(p))
			spoil(l.Down(p))
			spoil(l.Links())
		}
		if !equal(kept, want) || !equal(tell(l), want) {
			t.Errorf("what was kept: %v, what is answered: %v, want %v", kept, tell(l), want)
		}
		for p := range l.Places() {
			spoil(kept.up[p])
			spoil(kept.down[p])
		}
		if !slices.Equal(kept.links, want.links) {
			t.Errorf("Links changed with the lists of the places: %v, want %v", kept.links, want.links)
		}
		spoil(kept.links)
		if !equal(tell(l), want) {
			t.Errorf("what is answered: %v, want %v", tell(l), want)
		}
	}
}

// TestGraphStaysAsItIs: Build only asks it, and keeps nothing of it.
func TestGraphStaysAsItIs(t *testing.T) {
	for _, r := range []api.Road{square(), ringAbout(5)} {
		g, untouched := graph(t, r, road.Dist), graph(t, r, road.Dist)
		want := tell(Build(g))
		if g.Places() != untouched.Places() || g.Len() != untouched.Len() {
			t.Fatalf("Places %d, Len %d", g.Places(), g.Len())
		}
		for p := range r.Places {
			if !slices.Equal(g.Out(p), untouched.Out(p)) {
				t.Errorf("Out(%d): %v, it was %v", p, g.Out(p), untouched.Out(p))
			}
		}
		l := Build(g)
		*g = road.Graph{}
		if !equal(tell(l), want) {
			t.Errorf("without its graph: %v, want %v", tell(l), want)
		}
	}
}

// TestHeavyEdges: metrics of one's own may weigh as much as an int holds: what fits is told as it is, and what doesn't is no lighter than what does.
func TestHeavyEdges(t *testing.T) {
	draw := rand.New(rand.NewSource(72))
	weights := []int{0, 5, math.MaxInt - 5, math.MaxInt - 4, math.MaxInt}
	for range 500 {
		r := drawn(draw, 3+draw.Intn(5), 4+draw.Intn(20), len(weights))
		holds(t, r, func(a api.Arc) int { return weights[a.Time] })
	}
}

// TestMetricBelowZero: of one that answers less than 0 nothing is promised but that all calls end.
func TestMetricBelowZero(t *testing.T) {
	r := api.Road{Places: 6}
	for from := range 6 {
		for to := range 6 {
			r.Arcs = append(r.Arcs, api.Arc{From: from, To: to, Time: (from*5 + to*3) % 4})
		}
	}
	for _, w := range []int{-1, -2, -3, -4, math.MinInt, math.MinInt + 2} {
		l := Build(graph(t, r, func(a api.Arc) int { return w + a.Time }))
		for p := -1; p < 7; p++ {
			l.Rank(p)
			l.Up(p)
			l.Down(p)
		}
		l.Links()
	}
}
