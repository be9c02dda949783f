package lift

import (
	"math"
	"math/rand"
	"slices"
	"testing"

	"haulier/api"
	"haulier/road"
)

// graph: of a road with which nothing is wrong.
func graph(t testing.TB, r api.Road, m road.Metric) *road.Graph {
	t.Helper()
	g, e := road.New(r, m)
	if e != api.OK {
		t.Fatalf("no graph of %v: %d", r, e)
	}
	return g
}

// metrics: those of package road, and others that are allowed.
func metrics() []road.Metric {
	return []road.Metric{
		road.Time,
		road.Dist,
		func(a api.Arc) int { return 0 },
		func(a api.Arc) int { return 1 },
		func(a api.Arc) int { return 3*a.Time + a.Dist },
	}
}

// beyond: numbers that are no places of a graph of so many.
func beyond(places int) []int {
	return []int{-1, -2, places, places + 1, api.MaxPlaces, math.MinInt, math.MaxInt}
}

// unknown: a table of weights of which none is known but those of standing still.
func unknown(places int) [][]int {
	table := make([][]int, places)
	for p := range table {
		table[p] = slices.Repeat([]int{-1}, places)
		table[p][p] = 0
	}
	return table
}

// lower: the cell takes the weight, if it is below its own one.
func lower(cell *int, weight int) {
	if *cell < 0 || weight < *cell {
		*cell = weight
	}
}

// capped: the sum of two weights; the greatest int, if it is beyond.
func capped(a, b int) int { return int(min(uint(a)+uint(b), math.MaxInt)) }

// finish: a table of the weights of single steps becomes that of the least weights of all ways, over more and more places.
func finish(table [][]int) [][]int {
	for over := range table {
		for from := range table {
			for to := range table {
				if a, b := table[from][over], table[over][to]; a >= 0 && b >= 0 {
					lower(&table[from][to], capped(a, b))
				}
			}
		}
	}
	return table
}

// plainLeast: all least weights, straight from the arcs.
func plainLeast(r api.Road, m road.Metric) [][]int {
	table := unknown(r.Places)
	for _, a := range r.Arcs {
		lower(&table[a.From][a.To], m(a))
	}
	return finish(table)
}

// byLinks: all least weights of the ways of those links that are let through.
func byLinks(places int, links []api.Link, let func(api.Link) bool) [][]int {
	table := unknown(places)
	for _, k := range links {
		if let(k) {
			lower(&table[k.From][k.To], k.Weight)
		}
	}
	return finish(table)
}

// upThenDown: the least weights of the ways of which first all links lead up, then all lead down.
func upThenDown(l *Lifted) [][]int {
	n := l.Places()
	up := byLinks(n, l.Links(), func(k api.Link) bool { return l.Rank(k.From) < l.Rank(k.To) })
	down := byLinks(n, l.Links(), func(k api.Link) bool { return l.Rank(k.From) > l.Rank(k.To) })
	table := unknown(n)
	for from := range n {
		for top := range n {
			for to := range n {
				if a, b := up[from][top], down[top][to]; a >= 0 && b >= 0 {
					lower(&table[from][to], capped(a, b))
				}
			}
		}
	}
	return table
}

// same: are the tables the same?
func same(a, b [][]int) bool {
	return slices.EqualFunc(a, b, func(x, y []int) bool { return slices.Equal(x, y) })
}

// leastLink: the least weight of the links from a place to a place; -1: there is none.
func leastLink(links []api.Link, from, to int) int {
	least := -1
	for _, k := range links {
		if k.From == from && k.To == to {
			lower(&least, k.Weight)
		}
	}
	return least
}

// ranksHold: is each number from 0 to below places the rank of one place, and is there none of others?
func ranksHold(t *testing.T, l *Lifted, places int) {
	t.Helper()
	if l.Places() != places {
		t.Fatalf("Places: %d, want %d", l.Places(), places)
	}
	var ranks []int
	for p := range places {
		ranks = append(ranks, l.Rank(p))
	}
	slices.Sort(ranks)
	for want, got := range ranks {
		if got != want {
			t.Fatalf("ranks of %d places, sorted: %v", places, ranks)
		}
	}
	for _, p := range beyond(places) {
		if r := l.Rank(p); r != -1 {
			t.Fatalf("Rank(%d), no place of %d: %d", p, places, r)
		}
		if len(l.Up(p)) != 0 || len(l.Down(p)) != 0 {
			t.Fatalf("links of %d, no place of %d: %v, %v", p, places, l.Up(p), l.Down(p))
		}
	}
}

// linkHolds: is the link an edge as it was, or a shortcut as the words say?
func linkHolds(t *testing.T, g *road.Graph, l *Lifted, links []api.Link, k api.Link) {
	t.Helper()
	if l.Rank(k.From) < 0 || l.Rank(k.To) < 0 || k.From == k.To {
		t.Fatalf("%v leads from no place, to no place, or nowhere", k)
	}
	if k.Mid == -1 {
		if w := g.Weight(k.From, k.To); w < 0 || w != k.Weight {
			t.Fatalf("%v: the edge's weight is %d", k, w)
		}
		return
	}
	if r := l.Rank(k.Mid); r < 0 || r >= l.Rank(k.From) || r >= l.Rank(k.To) {
		t.Fatalf("%v: Mid has rank %d, the ends %d and %d", k, r, l.Rank(k.From), l.Rank(k.To))
	}
	a, b := leastLink(links, k.From, k.Mid), leastLink(links, k.Mid, k.To)
	if a < 0 || b < 0 || k.Weight != capped(a, b) {
		t.Fatalf("%v: over Mid the weights are %d and %d", k, a, b)
	}
}

// linksHold: are all links as the words say, none there twice, and is each edge among them, or a link as light?
func linksHold(t *testing.T, g *road.Graph, l *Lifted) {
	t.Helper()
	links := l.Links()
	for i, k := range links {
		linkHolds(t, g, l, links, k)
		if slices.Contains(links[:i], k) {
			t.Fatalf("%v is there twice: %v", k, links)
		}
	}
	for p := range g.Places() {
		for _, e := range g.Out(p) {
			if w := leastLink(links, p, e.To); w < 0 || w > e.Weight {
				t.Fatalf("the edge from %d to %d weighs %d, the links %d", p, e.To, e.Weight, w)
			}
		}
	}
}

// listsHold: is each link in just one of the lists, and there by its ends' ranks?
func listsHold(t *testing.T, l *Lifted) {
	t.Helper()
	seen := map[api.Link]int{}
	for p := range l.Places() {
		for _, k := range l.Up(p) {
			seen[k]++
			if k.From != p || l.Rank(k.To) <= l.Rank(p) {
				t.Fatalf("Up(%d) has %v, from rank %d to rank %d", p, k, l.Rank(k.From), l.Rank(k.To))
			}
		}
		for _, k := range l.Down(p) {
			seen[k]++
			if k.To != p || l.Rank(k.From) <= l.Rank(p) {
				t.Fatalf("Down(%d) has %v, from rank %d to rank %d", p, k, l.Rank(k.From), l.Rank(k.To))
			}
		}
	}
	links := l.Links()
	for _, k := range links {
		if seen[k] != 1 {
			t.Fatalf("%v is in %d of the lists", k, seen[k])
		}
	}
	if len(seen) != len(links) {
		t.Fatalf("the lists have %d links, Links has %d", len(seen), len(links))
	}
}

// answers: is this graph, with these least weights, lifted as the chapter says?
func answers(t *testing.T, g *road.Graph, want [][]int) {
	t.Helper()
	l := Build(g)
	if l == nil {
		t.Fatal("Build: nil")
	}
	ranksHold(t, l, len(want))
	linksHold(t, g, l)
	listsHold(t, l)
	if got := upThenDown(l); !same(got, want) {
		t.Fatalf("up, then down: %v, want %v", got, want)
	}
	if got := byLinks(len(want), l.Links(), func(api.Link) bool { return true }); !same(got, want) {
		t.Fatalf("by all links: %v, want %v", got, want)
	}
}

// transposed: rows become columns.
func transposed(rows [][]int) [][]int {
	turned := make([][]int, len(rows))
	for i := range turned {
		for j := range rows {
			turned[i] = append(turned[i], rows[j][i])
		}
	}
	return turned
}

// holds: are the graph of the road, and that one turned, lifted as the chapter says?
func holds(t *testing.T, r api.Road, m road.Metric) {
	t.Helper()
	defer func() {
		if t.Failed() {
			t.Logf("of %v", r)
		}
	}()
	g := graph(t, r, m)
	want := plainLeast(r, m)
	answers(t, g, want)
	answers(t, g.Turned(), transposed(want))
}

func TestExample(t *testing.T) {
	r := api.Road{Places: 2, Arcs: []api.Arc{{From: 0, To: 1, Time: 7}}}
	l := Build(graph(t, r, road.Time))
	if want := []api.Link{{From: 0, To: 1, Weight: 7, Mid: -1}}; !slices.Equal(l.Links(), want) {
		t.Errorf("Links: %v, want %v", l.Links(), want)
	}
	if !slices.Equal(l.Links(), append(l.Up(0), l.Down(1)...)) || len(l.Up(1)) != 0 || len(l.Down(0)) != 0 {
		t.Errorf("Up: %v, %v, Down: %v, %v", l.Up(0), l.Up(1), l.Down(0), l.Down(1))
	}
	holds(t, r, road.Time)
	holds(t, r, road.Dist)
}

func TestNoArcs(t *testing.T) {
	for _, places := range []int{1, 2, 7, api.MaxPlaces} {
		for _, m := range metrics() {
			holds(t, api.Road{Places: places}, m)
		}
		if links := Build(graph(t, api.Road{Places: places}, road.Time)).Links(); len(links) != 0 {
			t.Errorf("links of %d places without arcs: %v", places, links)
		}
	}
}

// TestShortcutInsteadOfAnEdge: an edge that is heavier than the way about it gives its place to a shortcut; one that is as light stays.
func TestShortcutInsteadOfAnEdge(t *testing.T) {
	for direct := range 9 {
		r := ringAbout(direct)
		holds(t, r, road.Time)
		holds(t, r, road.Dist)
	}
}

// ringAbout: many ways about one edge, whatever is lifted first.
func ringAbout(direct int) api.Road {
	r := api.Road{Places: 6, Arcs: []api.Arc{{From: 0, To: 5, Time: direct, Dist: 8 - direct}}}
	for mid := 1; mid < 5; mid++ {
		r.Arcs = append(r.Arcs, api.Arc{From: 0, To: mid, Time: mid, Dist: 1}, api.Arc{From: mid, To: 5, Time: 4 - mid, Dist: 1})
	}
	return r
}

// TestAllSmallGraphs: each pair of places has no arc, or one of each of a few numbers.
func TestAllSmallGraphs(t *testing.T) {
	for _, c := range []struct {
		places  int
		numbers [][2]int
	}{
		{1, [][2]int{{0, 0}}},
		{2, [][2]int{{0, 3}, {1, 0}, {2, 1}, {5, 5}}},
		{3, [][2]int{{0, 3}, {1, 0}, {2, 1}}},
	} {
		gridded(c.places, c.numbers, func(r api.Road) {
			holds(t, r, road.Time)
			holds(t, r, road.Dist)
		})
	}
	gridded(4, [][2]int{{1, 0}}, func(r api.Road) {
		holds(t, r, road.Time)
		holds(t, r, road.Dist)
	})
}

// gridded: all roads of so many places, of which each ordered pair has no arc, or one with one of these numbers.
func gridded(places int, numbers [][2]int, each func(api.Road)) {
	var longer func(pair int, arcs []api.Arc)
	longer = func(pair int, arcs []api.Arc) {
		if pair == places*places {
			each(api.Road{Places: places, Arcs: slices.Clone(arcs)})
			return
		}
		longer(pair+1, arcs)
		if pair/places == pair%places {
			return
		}
		for _, n := range numbers {
			longer(pair+1, append(arcs, api.Arc{From: pair / places, To: pair % places, Time: n[0], Dist: n[1]}))
		}
	}
	longer(0, nil)
}

// drawn: a road of so many places and arcs, with numbers below a bound.
func drawn(draw *rand.Rand, places, arcs, bound int) api.Road {
	r := api.Road{Places: places}
	for range arcs {
		r.Arcs = append(r.Arcs, api.Arc{From: draw.Intn(places), To: draw.Intn(places), Time: draw.Intn(bound), Dist: draw.Intn(bound)})
	}
	return r
}

func TestManyRoads(t *testing.T) {
	draw := rand.New(rand.NewSource(7))
	for range 3000 {
		r := drawn(draw, 1+draw.Intn(8), draw.Intn(24), 1+draw.Intn(6))
		holds(t, r, road.Time)
		holds(t, r, road.Dist)
	}
	for range 300 {
		r := drawn(draw, 1+draw.Intn(12), draw.Intn(60), 1+draw.Intn(api.MaxNumber+1))
		for _, m := range metrics() {
			holds(t, r, m)
		}
	}
	for range 30 {
		r := drawn(draw, 20+draw.Intn(13), 40+draw.Intn(api.MaxArcs-39), 1+draw.Intn(50))
		holds(t, r, road.Time)
		holds(t, r, road.Dist)
	}
}

// great: a road of MaxPlaces places and MaxArcs arcs of some shape.
func great(shape func(i int) api.Arc) api.Road {
	r := api.Road{Places: api.MaxPlaces}
	for i := range api.MaxArcs {
		r.Arcs = append(r.Arcs, shape(i))
	}
	return r
}

// TestGreatRoads: MaxPlaces places and MaxArcs arcs: one ring of the greatest weights, rings of no weight, many equal ways, all from one place, all to one, all of one pair, a grid, and drawn ones.
func TestGreatRoads(t *testing.T) {
	draw := rand.New(rand.NewSource(777))
	for _, shape := range []func(i int) api.Arc{
		func(i int) api.Arc { return api.Arc{From: i % 32, To: (i + 1) % 32, Time: api.MaxNumber, Dist: i} },
		func(i int) api.Arc {
			return api.Arc{From: i % 32, To: (i%32 + 31 - 2*(i/32)) % 32, Time: i % 2, Dist: 0}
		},
		func(i int) api.Arc { return api.Arc{From: i % 32, To: (i%32 + i/32 + 1) % 32, Time: i/32 + 1, Dist: 1} },
		func(i int) api.Arc { return api.Arc{From: 31, To: i % 32, Time: i, Dist: api.MaxNumber - i} },
		func(i int) api.Arc { return api.Arc{From: i % 32, To: 31, Time: i, Dist: api.MaxNumber - i} },
		func(i int) api.Arc { return api.Arc{From: 31, To: 0, Time: i, Dist: api.MaxNumber - i} },
		func(i int) api.Arc {
			return api.Arc{From: i % 32, To: (i%32 + []int{1, 31, 8, 24}[i/32%4]) % 32, Time: 1, Dist: i * i % 17}
		},
		func(i int) api.Arc {
			return api.Arc{From: draw.Intn(32), To: draw.Intn(32), Time: draw.Intn(api.MaxNumber + 1), Dist: draw.Intn(3)}
		},
	} {
		r := great(shape)
		for _, m := range metrics() {
			holds(t, r, m)
		}
	}
}

// TestRingsOfNoWeight: one could go round and round for nothing.
func TestRingsOfNoWeight(t *testing.T) {
	for places := 2; places <= api.MaxPlaces; places++ {
		r := api.Road{Places: places}
		for p := range places {
			r.Arcs = append(r.Arcs, api.Arc{From: p, To: (p + 1) % places}, api.Arc{From: (p + 1) % places, To: p}, api.Arc{From: p, To: p})
		}
		holds(t, r, road.Time)
		holds(t, r, road.Dist)
	}
}

// TestNoShortcutsInTrees: where there is one way at most between two places, each edge is lifted as it is, whatever stands where in the numbering.
func TestNoShortcutsInTrees(t *testing.T) {
	draw := rand.New(rand.NewSource(70))
	for range 200 {
		r := tree(draw, 2+draw.Intn(api.MaxPlaces-1))
		g := graph(t, r, road.Time)
		links := Build(g).Links()
		if len(links) != g.Len() {
			t.Fatalf("%v: %d links of %d edges", r, len(links), g.Len())
		}
		holds(t, r, road.Time)
	}
}

// tree: each place but one has a road to and from one of those ahead of it, under drawn numbers.
func tree(draw *rand.Rand, places int) api.Road {
	r := api.Road{Places: places}
	number := draw.Perm(places)
	for p := 1; p < places; p++ {
		a, b := number[p], number[draw.Intn(p)]
		r.Arcs = append(r.Arcs, api.Arc{From: a, To: b, Time: draw.Intn(4)}, api.Arc{From: b, To: a, Time: draw.Intn(4)})
	}
	return r
}

// TestNoShortcutsBesideWaysAsLight: a shortcut that is no lighter than what there is is none: where all pairs have edges, and about a ring of four.
func TestNoShortcutsBesideWaysAsLight(t *testing.T) {
	ring := api.Road{Places: 4}
	for p := range 4 {
		ring.Arcs = append(ring.Arcs, api.Arc{From: p, To: (p + 1) % 4, Time: 1}, api.Arc{From: (p + 1) % 4, To: p, Time: 1})
	}
	roads := []api.Road{ring}
	for places := 2; places <= 16; places++ {
		r := api.Road{Places: places}
		for pair := range places * places {
			r.Arcs = append(r.Arcs, api.Arc{From: pair / places, To: pair % places, Time: 1 + pair%2})
		}
		roads = append(roads, r)
	}
	for _, r := range roads {
		for _, m := range []road.Metric{road.Time, road.Dist} {
			g := graph(t, r, m)
			if links := Build(g).Links(); len(links) != g.Len() {
				t.Errorf("%v: %d links of %d edges", r, len(links), g.Len())
			}
			holds(t, r, m)
		}
	}
}
