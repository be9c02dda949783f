package short

import (
	"math"
	"math/rand"
	"slices"
	"testing"

	"haulier/api"
	"haulier/road"
)

// example: that of chapter 5.
func example() api.Road {
	return api.Road{Places: 3, Arcs: []api.Arc{
		{From: 0, To: 1, Time: 5, Dist: 9},
		{From: 0, To: 1, Time: 4, Dist: 12},
		{From: 1, To: 1, Time: 1, Dist: 1},
		{From: 1, To: 2},
	}}
}

// graph: of a road with which nothing is wrong.
func graph(t testing.TB, r api.Road, m road.Metric) *road.Graph {
	t.Helper()
	g, e := road.New(r, m)
	if e != api.OK {
		t.Fatalf("no graph of %v: %d", r, e)
	}
	return g
}

// metrics: those of package road, and others that are allowed.
func metrics() []road.Metric {
	return []road.Metric{
		road.Time,
		road.Dist,
		func(a api.Arc) int { return 0 },
		func(a api.Arc) int { return 1 },
		func(a api.Arc) int { return 3*a.Time + a.Dist },
	}
}

// beyond: numbers that are no places of a graph of so many.
func beyond(places int) []int {
	return []int{-1, -2, places, places + 1, api.MaxPlaces, math.MinInt, math.MaxInt}
}

// plainLeast: all least weights, straight from the arcs: over no other place, then over more and more of them.
func plainLeast(r api.Road, m road.Metric) [][]int {
	least := make([][]int, r.Places)
	for p := range least {
		least[p] = slices.Repeat([]int{-1}, r.Places)
		least[p][p] = 0
	}
	for _, a := range r.Arcs {
		if w := least[a.From][a.To]; w < 0 || m(a) < w {
			least[a.From][a.To] = m(a)
		}
	}
	for over := range r.Places {
		for from := range r.Places {
			for to := range r.Places {
				a, b := least[from][over], least[over][to]
				if w := least[from][to]; a >= 0 && b >= 0 && (w < 0 || a+b < w) {
					least[from][to] = a + b
				}
			}
		}
	}
	return least
}

// plainWeigh: a way's weight, straight from the arcs.
func plainWeigh(r api.Road, m road.Metric, way []int) int {
	if len(way) == 0 || way[0] < 0 || way[0] >= r.Places {
		return -1
	}
	sum := 0
	for i := 1; i < len(way); i++ {
		w := -1
		for _, a := range r.Arcs {
			if a.From == way[i-1] && a.To == way[i] && a.From != a.To && (w < 0 || m(a) < w) {
				w = m(a)
			}
		}
		if w < 0 {
			return -1
		}
		sum += w
	}
	return sum
}

// transposed: rows become columns.
func transposed(rows [][]int) [][]int {
	turned := make([][]int, len(rows))
	for i := range turned {
		for j := range rows {
			turned[i] = append(turned[i], rows[j][i])
		}
	}
	return turned
}

// leadsBack: does one come back from a place to p by the places ahead, each with an edge to the next, and with this weight in all?
func leadsBack(t *testing.T, g *road.Graph, ahead []int, p, to, want int) {
	t.Helper()
	sum, at := 0, to
	for range g.Places() {
		if at == p {
			break
		}
		w := g.Weight(ahead[at], at)
		if w < 0 {
			t.Fatalf("From(%d): no edge from %d, ahead of %d", p, ahead[at], at)
		}
		sum += w
		at = ahead[at]
	}
	if at != p || sum != want {
		t.Fatalf("From(%d): back from %d one comes to %d with %d, want the weight %d: %v", p, to, at, sum, want, ahead)
	}
}

// fromHolds: is From(p) what these least weights ask for?
func fromHolds(t *testing.T, g *road.Graph, p int, want []int) {
	t.Helper()
	least, ahead := From(g, p)
	if !slices.Equal(least, want) || len(ahead) != len(want) {
		t.Fatalf("From(%d): %v, %v, want %v", p, least, ahead, want)
	}
	for to, w := range want {
		if (ahead[to] == -1) != (to == p || w == -1) {
			t.Fatalf("From(%d): ahead of %d: %d, its weight %d", p, to, ahead[to], w)
		}
		if w >= 0 {
			leadsBack(t, g, ahead, p, to, w)
		}
	}
}

// wayHolds: is Way(from, to) a way with this weight, or none, if it is -1?
func wayHolds(t *testing.T, g *road.Graph, from, to, want int) {
	t.Helper()
	way, w := Way(g, from, to)
	if w != want || (len(way) == 0) != (want == -1) {
		t.Fatalf("Way(%d, %d): %v, %d, want the weight %d", from, to, way, w, want)
	}
	if Weigh(g, way) != want {
		t.Fatalf("Way(%d, %d): Weigh of %v: %d, want %d", from, to, way, Weigh(g, way), want)
	}
	if want >= 0 && (way[0] != from || way[len(way)-1] != to) {
		t.Fatalf("Way(%d, %d) leads elsewhere: %v", from, to, way)
	}
}

// lacks: is there nothing from and to numbers that are no places?
func lacks(t *testing.T, g *road.Graph) {
	t.Helper()
	n := g.Places()
	for _, p := range beyond(n) {
		if least, ahead := From(g, p); len(least) != 0 || len(ahead) != 0 {
			t.Fatalf("From(%d), no place of %d: %v, %v", p, n, least, ahead)
		}
		for _, q := range append(beyond(n), 0, n/2, n-1) {
			for _, pair := range [][2]int{{p, q}, {q, p}} {
				if way, w := Way(g, pair[0], pair[1]); len(way) != 0 || w != -1 {
					t.Fatalf("Way(%d, %d) of %d places: %v, %d", pair[0], pair[1], n, way, w)
				}
			}
		}
	}
}

// answers: does the graph have these least weights, by all calls?
func answers(t *testing.T, g *road.Graph, want [][]int) {
	t.Helper()
	for p := range want {
		fromHolds(t, g, p, want[p])
		for to, w := range want[p] {
			wayHolds(t, g, p, to, w)
		}
	}
	if m := All(g); m.N != len(want) || !slices.Equal(m.Cells, slices.Concat(want...)) {
		t.Fatalf("All: %v, want %v", m, want)
	}
	lacks(t, g)
}

// holds: have the graph of the road, and that one turned, the least weights of the plain reckoning?
func holds(t *testing.T, r api.Road, m road.Metric) {
	t.Helper()
	defer func() {
		if t.Failed() {
			t.Logf("of %v", r)
		}
	}()
	g := graph(t, r, m)
	want := plainLeast(r, m)
	answers(t, g, want)
	answers(t, g.Turned(), transposed(want))
}

func TestExample(t *testing.T) {
	g := graph(t, example(), road.Time)
	if least, ahead := From(g, 0); !slices.Equal(least, []int{0, 4, 4}) || !slices.Equal(ahead, []int{-1, 0, 1}) {
		t.Errorf("From(0): %v, %v", least, ahead)
	}
	if way, w := Way(g, 0, 2); !slices.Equal(way, []int{0, 1, 2}) || w != 4 {
		t.Errorf("Way(0, 2): %v, %d", way, w)
	}
	if way, w := Way(g, 2, 0); len(way) != 0 || w != -1 {
		t.Errorf("Way(2, 0): %v, %d", way, w)
	}
	if m := All(g); m.N != 3 || !slices.Equal(m.Cells, []int{0, 4, 4, -1, 0, 0, -1, -1, 0}) {
		t.Errorf("All: %v", m)
	}
	if m := All(graph(t, example(), road.Dist)); m.N != 3 || !slices.Equal(m.Cells, []int{0, 9, 9, -1, 0, 0, -1, -1, 0}) {
		t.Errorf("All by Dist: %v", m)
	}
}

func TestNoArcs(t *testing.T) {
	for _, places := range []int{1, 2, 7, api.MaxPlaces} {
		for _, m := range metrics() {
			holds(t, api.Road{Places: places}, m)
		}
		for p := range places {
			g := graph(t, api.Road{Places: places}, road.Time)
			if way, w := Way(g, p, p); !slices.Equal(way, []int{p}) || w != 0 {
				t.Errorf("Way(%d, %d): %v, %d", p, p, way, w)
			}
		}
	}
}

// TestAllSmallGraphs: each pair of places has no arc, or one of each of a few numbers.
func TestAllSmallGraphs(t *testing.T) {
	for _, c := range []struct {
		places  int
		numbers [][2]int
	}{
		{1, [][2]int{{0, 0}}},
		{2, [][2]int{{0, 3}, {1, 0}, {2, 1}, {5, 5}}},
		{3, [][2]int{{0, 3}, {1, 0}, {2, 1}}},
	} {
		gridded(c.places, c.numbers, func(r api.Road) {
			holds(t, r, road.Time)
			holds(t, r, road.Dist)
		})
	}
	gridded(4, [][2]int{{1, 0}}, func(r api.Road) {
		holds(t, r, road.Time)
		holds(t, r, road.Dist)
	})
}

// gridded: all roads of so many places, of which each ordered pair has no arc, or one with one of these numbers.
func gridded(places int, numbers [][2]int, each func(api.Road)) {
	var longer func(pair int, arcs []api.Arc)
	longer = func(pair int, arcs []api.Arc) {
		if pair == places*places {
			each(api.Road{Places: places, Arcs: slices.Clone(arcs)})
			return
		}
		longer(pair+1, arcs)
		if pair/places == pair%places {
			return
		}
		for _, n := range numbers {
			longer(pair+1, append(arcs, api.Arc{From: pair / places, To: pair % places, Time: n[0], Dist: n[1]}))
		}
	}
	longer(0, nil)
}

// drawn: a road of so many places and arcs, with numbers below a bound.
func drawn(draw *rand.Rand, places, arcs, bound int) api.Road {
	r := api.Road{Places: places}
	for range arcs {
		r.Arcs = append(r.Arcs, api.Arc{From: draw.Intn(places), To: draw.Intn(places), Time: draw.Intn(bound), Dist: draw.Intn(bound)})
	}
	return r
}

func TestManyRoads(t *testing.T) {
	draw := rand.New(rand.NewSource(6))
	for range 3000 {
		r := drawn(draw, 1+draw.Intn(8), draw.Intn(24), 1+draw.Intn(6))
		holds(t, r, road.Time)
		holds(t, r, road.Dist)
	}
	for range 300 {
		r := drawn(draw, 1+draw.Intn(12), draw.Intn(60), 1+draw.Intn(api.MaxNumber+1))
		for _, m := range metrics() {
			holds(t, r, m)
		}
	}
}

// TestLeastOfAllWays: the least weight is the least Weigh of all ways without a place twice (one with a place twice is no lighter).
func TestLeastOfAllWays(t *testing.T) {
	draw := rand.New(rand.NewSource(66))
	for range 300 {
		r := drawn(draw, 1+draw.Intn(5), draw.Intn(16), 1+draw.Intn(5))
		for _, m := range []road.Metric{road.Time, road.Dist} {
			g := graph(t, r, m)
			all := All(g)
			for p := range r.Places {
				best := slices.Repeat([]int{-1}, r.Places)
				ways(g, []int{p}, func(way []int) {
					to := way[len(way)-1]
					if w := Weigh(g, way); best[to] < 0 || w < best[to] {
						best[to] = w
					}
				})
				if row := all.Cells[p*r.Places : (p+1)*r.Places]; !slices.Equal(row, best) {
					t.Fatalf("%v: from %d: %v, of all ways %v", r, p, row, best)
				}
			}
		}
	}
}

// ways: all that begin so, without a place twice.
func ways(g *road.Graph, way []int, each func([]int)) {
	each(way)
	for _, e := range g.Out(way[len(way)-1]) {
		if !slices.Contains(way, e.To) {
			ways(g, append(slices.Clone(way), e.To), each)
		}
	}
}

// great: a road of MaxPlaces places and MaxArcs arcs of some shape.
func great(shape func(i int) api.Arc) api.Road {
	r := api.Road{Places: api.MaxPlaces}
	for i := range api.MaxArcs {
		r.Arcs = append(r.Arcs, shape(i))
	}
	return r
}

// TestGreatRoads: MaxPlaces places and MaxArcs arcs: one ring of the greatest weights, rings of no weight, many equal ways, all from one place, all to one, all of one pair, and drawn ones.
func TestGreatRoads(t *testing.T) {
	draw := rand.New(rand.NewSource(666))
	shapes := []func(i int) api.Arc{
		func(i int) api.Arc { return api.Arc{From: i % 32, To: (i + 1) % 32, Time: api.MaxNumber, Dist: i} },
		func(i int) api.Arc {
			return api.Arc{From: i % 32, To: (i%32 + 31 - 2*(i/32)) % 32, Time: i % 2, Dist: 0}
		},
		func(i int) api.Arc { return api.Arc{From: i % 32, To: (i%32 + i/32 + 1) % 32, Time: i/32 + 1, Dist: 1} },
		func(i int) api.Arc { return api.Arc{From: 31, To: i % 32, Time: i, Dist: api.MaxNumber - i} },
		func(i int) api.Arc { return api.Arc{From: i % 32, To: 31, Time: i, Dist: api.MaxNumber - i} },
		func(i int) api.Arc { return api.Arc{From: 31, To: 0, Time: i, Dist: api.MaxNumber - i} },
		func(i int) api.Arc {
			return api.Arc{From: draw.Intn(32), To: draw.Intn(32), Time: draw.Intn(api.MaxNumber + 1), Dist: draw.Intn(3)}
		},
	}
	for _, shape := range shapes {
		r := great(shape)
		for _, m := range metrics() {
			holds(t, r, m)
		}
	}
	ring := graph(t, great(shapes[0]), road.Time)
	if way, w := Way(ring, 5, 4); len(way) != 32 || w != 31*api.MaxNumber {
		t.Errorf("once round: %v, %d", way, w)
	}
}

// TestOneMoreArc: it makes nothing farther, and takes no way.
func TestOneMoreArc(t *testing.T) {
	draw := rand.New(rand.NewSource(60))
	for range 200 {
		r := drawn(draw, 2+draw.Intn(9), 40, 1+draw.Intn(20))
		arcs := r.Arcs
		r.Arcs = nil
		was := All(graph(t, r, road.Time))
		for n := range arcs {
			r.Arcs = arcs[:n+1]
			is := All(graph(t, r, road.Time))
			for i, w := range is.Cells {
				if was.Cells[i] >= 0 && (w < 0 || w > was.Cells[i]) {
					t.Fatalf("%v: with the last arc, cell %d: %d, without it %d", r, i, w, was.Cells[i])
				}
			}
			was = is
		}
	}
}

// TestRingsOfNoWeight: every place ahead leads to p, though one could go round and round for nothing.
func TestRingsOfNoWeight(t *testing.T) {
	for places := 2; places <= api.MaxPlaces; places++ {
		r := api.Road{Places: places}
		for p := range places {
			r.Arcs = append(r.Arcs, api.Arc{From: p, To: (p + 1) % places}, api.Arc{From: (p + 1) % places, To: p}, api.Arc{From: p, To: p})
		}
		holds(t, r, road.Time)
		holds(t, r, road.Dist)
	}
}
