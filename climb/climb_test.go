package climb

import (
	"math"
	"math/rand"
	"slices"
	"testing"

	"haulier/api"
	"haulier/lift"
	"haulier/road"
	"haulier/short"
)

// example: that of chapter 5.
func example() api.Road {
	return api.Road{Places: 3, Arcs: []api.Arc{
		{From: 0, To: 1, Time: 5, Dist: 9},
		{From: 0, To: 1, Time: 4, Dist: 12},
		{From: 1, To: 1, Time: 1, Dist: 1},
		{From: 1, To: 2},
	}}
}

// graph: of a road with which nothing is wrong.
func graph(t testing.TB, r api.Road, m road.Metric) *road.Graph {
	t.Helper()
	g, e := road.New(r, m)
	if e != api.OK {
		t.Fatalf("no graph of %v: %d", r, e)
	}
	return g
}

// metrics: those of package road, and others that are allowed.
func metrics() []road.Metric {
	return []road.Metric{
		road.Time,
		road.Dist,
		func(a api.Arc) int { return 0 },
		func(a api.Arc) int { return 1 },
		func(a api.Arc) int { return 3*a.Time + a.Dist },
	}
}

// beyond: numbers that are no places of a graph of so many.
func beyond(places int) []int {
	return []int{-1, -2, places, places + 1, api.MaxPlaces, math.MinInt, math.MaxInt}
}

// unknown: a table of weights of which none is known but those of standing still.
func unknown(places int) [][]int {
	table := make([][]int, places)
	for p := range table {
		table[p] = slices.Repeat([]int{-1}, places)
		table[p][p] = 0
	}
	return table
}

// lower: the cell takes the weight, if it is below its own one.
func lower(cell *int, weight int) {
	if *cell < 0 || weight < *cell {
		*cell = weight
	}
}

// capped: the sum of two weights; the greatest int, if it is beyond.
func capped(a, b int) int {
	if a > math.MaxInt-b {
		return math.MaxInt
	}
	return a + b
}

// finish: a table of the weights of single steps becomes that of the least weights of all ways, over more and more places.
func finish(table [][]int) [][]int {
	for over := range table {
		for from := range table {
			for to := range table {
				if a, b := table[from][over], table[over][to]; a >= 0 && b >= 0 {
					lower(&table[from][to], capped(a, b))
				}
			}
		}
	}
	return table
}

// plainLeast: all least weights, straight from the arcs.
func plainLeast(r api.Road, m road.Metric) [][]int {
	table := unknown(r.Places)
	for _, a := range r.Arcs {
		lower(&table[a.From][a.To], m(a))
	}
	return finish(table)
}

// plainReached: all least weights of the ways of links that lead up (or down), by the ends' ranks.
func plainReached(l *lift.Lifted, up bool) [][]int {
	table := unknown(l.Places())
	for _, k := range l.Links() {
		if (l.Rank(k.From) < l.Rank(k.To)) == up {
			lower(&table[k.From][k.To], k.Weight)
		}
	}
	return finish(table)
}

// transposed: rows become columns.
func transposed(rows [][]int) [][]int {
	turned := make([][]int, len(rows))
	for i := range turned {
		for j := range rows {
			turned[i] = append(turned[i], rows[j][i])
		}
	}
	return turned
}

// there: the numbers of those cells that aren't -1, and these cells.
func there(row []int) ([]int, []int) {
	var at, cells []int
	for i, w := range row {
		if w != -1 {
			at, cells = append(at, i), append(cells, w)
		}
	}
	return at, cells
}

// reachedHolds: is Reached of every place, upwards and downwards, what the links say?
func reachedHolds(t *testing.T, l *lift.Lifted) {
	t.Helper()
	up, down := plainReached(l, true), transposed(plainReached(l, false))
	for p := range l.Places() {
		for _, c := range []struct {
			up  bool
			row []int
		}{{true, up[p]}, {false, down[p]}} {
			places, weights := Reached(l, p, c.up)
			wantPlaces, wantWeights := there(c.row)
			if !slices.Equal(places, wantPlaces) || !slices.Equal(weights, wantWeights) {
				t.Fatalf("Reached(%d, %v): %v, %v, want %v, %v", p, c.up, places, weights, wantPlaces, wantWeights)
			}
		}
	}
}

// wayHolds: is Way(from, to) a way of the graph's own edges with this weight, or none, if it is -1?
func wayHolds(t *testing.T, g *road.Graph, l *lift.Lifted, from, to, want int) {
	t.Helper()
	way, w := Way(l, from, to)
	if w != want || (len(way) == 0) != (want == -1) {
		t.Fatalf("Way(%d, %d): %v, %d, want the weight %d", from, to, way, w, want)
	}
	if want == -1 {
		return
	}
	if way[0] != from || way[len(way)-1] != to {
		t.Fatalf("Way(%d, %d) leads elsewhere: %v", from, to, way)
	}
	sum := 0
	for i := 1; i < len(way); i++ {
		if g.Weight(way[i-1], way[i]) < 0 {
			t.Fatalf("Way(%d, %d): %v: no edge from %d to %d", from, to, way, way[i-1], way[i])
		}
		sum = capped(sum, g.Weight(way[i-1], way[i]))
	}
	if sum != want || short.Weigh(g, way) != want {
		t.Fatalf("Way(%d, %d): %v weighs %d, want %d", from, to, way, sum, want)
	}
	if once := slices.Compact(slices.Sorted(slices.Values(way))); len(once) != len(way) {
		t.Fatalf("Way(%d, %d) comes to a place twice: %v", from, to, way)
	}
}

// lacks: is there nothing from and to numbers that are no places?
func lacks(t *testing.T, l *lift.Lifted) {
	t.Helper()
	n := l.Places()
	for _, p := range beyond(n) {
		for _, up := range []bool{true, false} {
			if places, weights := Reached(l, p, up); len(places) != 0 || len(weights) != 0 {
				t.Fatalf("Reached(%d, %v), no place of %d: %v, %v", p, up, n, places, weights)
			}
		}
		for q := range n {
			for _, pair := range [][2]int{{p, q}, {q, p}} {
				if w := Dist(l, pair[0], pair[1]); w != -1 {
					t.Fatalf("Dist(%d, %d) of %d places: %d", pair[0], pair[1], n, w)
				}
				if way, w := Way(l, pair[0], pair[1]); len(way) != 0 || w != -1 {
					t.Fatalf("Way(%d, %d) of %d places: %v, %d", pair[0], pair[1], n, way, w)
				}
			}
		}
		for _, q := range beyond(n) {
			if way, w := Way(l, p, q); len(way) != 0 || w != -1 || Dist(l, p, q) != -1 {
				t.Fatalf("Way(%d, %d) of %d places: %v, %d, Dist: %d", p, q, n, way, w, Dist(l, p, q))
			}
		}
	}
}

// answers: does the graph, lifted, have these least weights, by all calls?
func answers(t *testing.T, g *road.Graph, want [][]int) {
	t.Helper()
	l := lift.Build(g)
	reachedHolds(t, l)
	for from := range want {
		for to, w := range want[from] {
			if d := Dist(l, from, to); d != w {
				t.Fatalf("Dist(%d, %d): %d, want %d", from, to, d, w)
			}
			wayHolds(t, g, l, from, to, w)
		}
	}
	m, all := Table(l), short.All(g)
	if m.N != len(want) || !slices.Equal(m.Cells, slices.Concat(want...)) {
		t.Fatalf("Table: %v, want %v", m, want)
	}
	if m.N != all.N || !slices.Equal(m.Cells, all.Cells) {
		t.Fatalf("Table: %v, short.All: %v", m, all)
	}
}

// holds: have the graph of the road, and that one turned and lifted anew, the least weights of the plain reckoning?
func holds(t *testing.T, r api.Road, m road.Metric) {
	t.Helper()
	defer func() {
		if t.Failed() {
			t.Logf("of %v", r)
		}
	}()
	g := graph(t, r, m)
	want := plainLeast(r, m)
	answers(t, g, want)
	answers(t, g.Turned(), transposed(want))
}

func TestExample(t *testing.T) {
	l := lift.Build(graph(t, example(), road.Time))
	if Dist(l, 0, 2) != 4 || Dist(l, 2, 0) != -1 {
		t.Errorf("Dist(0, 2): %d, Dist(2, 0): %d", Dist(l, 0, 2), Dist(l, 2, 0))
	}
	if way, w := Way(l, 0, 2); !slices.Equal(way, []int{0, 1, 2}) || w != 4 {
		t.Errorf("Way(0, 2): %v, %d", way, w)
	}
	if way, w := Way(l, 2, 0); len(way) != 0 || w != -1 {
		t.Errorf("Way(2, 0): %v, %d", way, w)
	}
	if m := Table(l); m.N != 3 || !slices.Equal(m.Cells, []int{0, 4, 4, -1, 0, 0, -1, -1, 0}) {
		t.Errorf("Table: %v", m)
	}
	if m := Table(lift.Build(graph(t, example(), road.Dist))); m.N != 3 || !slices.Equal(m.Cells, []int{0, 9, 9, -1, 0, 0, -1, -1, 0}) {
		t.Errorf("Table by Dist: %v", m)
	}
	holds(t, example(), road.Time)
	holds(t, example(), road.Dist)
}

// TestNoArcs: each place is reached from itself alone, and its way to itself is one place.
func TestNoArcs(t *testing.T) {
	for _, places := range []int{1, 2, 7, api.MaxPlaces} {
		for _, m := range metrics() {
			holds(t, api.Road{Places: places}, m)
		}
		l := lift.Build(graph(t, api.Road{Places: places}, road.Time))
		for p := range places {
			if way, w := Way(l, p, p); !slices.Equal(way, []int{p}) || w != 0 {
				t.Errorf("Way(%d, %d): %v, %d", p, p, way, w)
			}
			for _, up := range []bool{true, false} {
				if at, w := Reached(l, p, up); !slices.Equal(at, []int{p}) || !slices.Equal(w, []int{0}) {
					t.Errorf("Reached(%d, %v): %v, %v", p, up, at, w)
				}
			}
		}
	}
}

// TestOneArc: from its one end to the other, and not back; whichever rank is the greater, one of the ends climbs to the other.
func TestOneArc(t *testing.T) {
	l := lift.Build(graph(t, api.Road{Places: 2, Arcs: []api.Arc{{From: 0, To: 1, Time: 7}}}, road.Time))
	if Dist(l, 0, 1) != 7 || Dist(l, 1, 0) != -1 {
		t.Errorf("Dist: %d, %d", Dist(l, 0, 1), Dist(l, 1, 0))
	}
	low, up := 0, true
	if l.Rank(1) < l.Rank(0) {
		low, up = 1, false
	}
	want := []int{0, 7}
	if low == 1 {
		slices.Reverse(want)
	}
	if places, weights := Reached(l, low, up); !slices.Equal(places, []int{0, 1}) || !slices.Equal(weights, want) {
		t.Errorf("Reached(%d, %v): %v, %v", low, up, places, weights)
	}
	if places, weights := Reached(l, low, !up); !slices.Equal(places, []int{low}) || !slices.Equal(weights, []int{0}) {
		t.Errorf("Reached(%d, %v): %v, %v", low, !up, places, weights)
	}
	for _, up := range []bool{true, false} {
		if places, weights := Reached(l, 1-low, up); !slices.Equal(places, []int{1 - low}) || !slices.Equal(weights, []int{0}) {
			t.Errorf("Reached(%d, %v): %v, %v", 1-low, up, places, weights)
		}
	}
}

// TestAllSmallGraphs: each pair of places has no arc, or one of each of a few numbers. (The turned ones are among them.)
func TestAllSmallGraphs(t *testing.T) {
	t.Parallel()
	for _, c := range []struct {
		places  int
		numbers [][2]int
	}{
		{1, [][2]int{{0, 0}}},
		{2, [][2]int{{0, 3}, {1, 0}, {2, 1}, {5, 5}}},
		{3, [][2]int{{0, 3}, {1, 0}, {2, 1}}},
		{4, [][2]int{{1, 0}}},
	} {
		gridded(c.places, c.numbers, func(r api.Road) {
			answers(t, graph(t, r, road.Time), plainLeast(r, road.Time))
			answers(t, graph(t, r, road.Dist), plainLeast(r, road.Dist))
		})
	}
}

// gridded: all roads of so many places, of which each ordered pair has no arc, or one with one of these numbers.
func gridded(places int, numbers [][2]int, each func(api.Road)) {
	var longer func(pair int, arcs []api.Arc)
	longer = func(pair int, arcs []api.Arc) {
		if pair == places*places {
			each(api.Road{Places: places, Arcs: slices.Clone(arcs)})
			return
		}
		longer(pair+1, arcs)
		if pair/places == pair%places {
			return
		}
		for _, n := range numbers {
			longer(pair+1, append(arcs, api.Arc{From: pair / places, To: pair % places, Time: n[0], Dist: n[1]}))
		}
	}
	longer(0, nil)
}

// drawn: a road of so many places and arcs, with numbers below a bound.
func drawn(draw *rand.Rand, places, arcs, bound int) api.Road {
	r := api.Road{Places: places}
	for range arcs {
		r.Arcs = append(r.Arcs, api.Arc{From: draw.Intn(places), To: draw.Intn(places), Time: draw.Intn(bound), Dist: draw.Intn(bound)})
	}
	return r
}

func TestManyRoads(t *testing.T) {
	t.Parallel()
	draw := rand.New(rand.NewSource(8))
	for range 1000 {
		r := drawn(draw, 1+draw.Intn(8), draw.Intn(24), 1+draw.Intn(6))
		holds(t, r, road.Time)
		holds(t, r, road.Dist)
	}
	for range 100 {
		r := drawn(draw, 1+draw.Intn(12), draw.Intn(60), 1+draw.Intn(api.MaxNumber+1))
		for _, m := range metrics() {
			holds(t, r, m)
		}
	}
	for range 10 {
		r := drawn(draw, 20+draw.Intn(13), 40+draw.Intn(api.MaxArcs-39), 1+draw.Intn(50))
		holds(t, r, road.Time)
		holds(t, r, road.Dist)
	}
}

// great: a road of MaxPlaces places and MaxArcs arcs of some shape.
func great(shape func(i int) api.Arc) api.Road {
	r := api.Road{Places: api.MaxPlaces}
	for i := range api.MaxArcs {
		r.Arcs = append(r.Arcs, shape(i))
	}
	return r
}

// TestGreatRoads: MaxPlaces places and MaxArcs arcs: one ring of the greatest weights, rings of no weight, many equal ways, all from one place, all to one, all of one pair, a grid, and drawn ones.
func TestGreatRoads(t *testing.T) {
	t.Parallel()
	draw := rand.New(rand.NewSource(888))
	shapes := []func(i int) api.Arc{
		func(i int) api.Arc { return api.Arc{From: i % 32, To: (i + 1) % 32, Time: api.MaxNumber, Dist: i} },
		func(i int) api.Arc {
			return api.Arc{From: i % 32, To: (i%32 + 31 - 2*(i/32)) % 32, Time: i % 2, Dist: 0}
		},
		func(i int) api.Arc { return api.Arc{From: i % 32, To: (i%32 + i/32 + 1) % 32, Time: i/32 + 1, Dist: 1} },
		func(i int) api.Arc { return api.Arc{From: 31, To: i % 32, Time: i, Dist: api.MaxNumber - i} },
		func(i int) api.Arc { return api.Arc{From: i % 32, To: 31, Time: i, Dist: api.MaxNumber - i} },
		func(i int) api.Arc { return api.Arc{From: 31, To: 0, Time: i, Dist: api.MaxNumber - i} },
		func(i int) api.Arc {
			return api.Arc{From: i % 32, To: (i%32 + []int{1, 31, 8, 24}[i/32%4]) % 32, Time: 1, Dist: i * i % 17}
		},
		func(i int) api.Arc {
			return api.Arc{From: draw.Intn(32), To: draw.Intn(32), Time: draw.Intn(api.MaxNumber + 1), Dist: draw.Intn(3)}
		},
	}
	for _, shape := range shapes {
		r := great(shape)
		holds(t, r, road.Time)
		holds(t, r, road.Dist)
	}
	ring := lift.Build(graph(t, great(shapes[0]), road.Time))
	if way, w := Way(ring, 5, 4); len(way) != 32 || w != 31*api.MaxNumber {
		t.Errorf("once round: %v, %d", way, w)
	}
}

// TestRingsOfNoWeight: one could go round and round for nothing.
func TestRingsOfNoWeight(t *testing.T) {
	for places := 2; places <= api.MaxPlaces; places++ {
		r := api.Road{Places: places}
		for p := range places {
			r.Arcs = append(r.Arcs, api.Arc{From: p, To: (p + 1) % places}, api.Arc{From: (p + 1) % places, To: p}, api.Arc{From: p, To: p})
		}
		holds(t, r, road.Time)
	}
}

// TestLines: only one way leads from end to end, through all places, in whatever order they stand and are lifted: many shortcuts within shortcuts.
func TestLines(t *testing.T) {
	draw := rand.New(rand.NewSource(80))
	for range 60 {
		order := draw.Perm(2 + draw.Intn(api.MaxPlaces-1))
		r := api.Road{Places: len(order)}
		weight := 0
		for i, p := range order[1:] {
			r.Arcs = append(r.Arcs, api.Arc{From: order[i], To: p, Time: i % 5})
			weight += i % 5
		}
		l := lift.Build(graph(t, r, road.Time))
		first, last := order[0], order[len(order)-1]
		if way, w := Way(l, first, last); !slices.Equal(way, order) || w != weight {
			t.Fatalf("along %v: %v, %d, want %d", order, way, w, weight)
		}
		if way, w := Way(l, last, first); len(way) != 0 || w != -1 {
			t.Fatalf("back along %v: %v, %d", order, way, w)
		}
		holds(t, r, road.Time)
	}
}

// TestOtherNumbers: places under other numbers are lifted in another order, and are as far from one another.
func TestOtherNumbers(t *testing.T) {
	draw := rand.New(rand.NewSource(81))
	for range 30 {
		r := drawn(draw, 2+draw.Intn(14), draw.Intn(60), 1+draw.Intn(9))
		want := Table(lift.Build(graph(t, r, road.Time)))
		for range 10 {
			number := draw.Perm(r.Places)
			other := api.Road{Places: r.Places}
			for _, a := range r.Arcs {
				other.Arcs = append(other.Arcs, api.Arc{From: number[a.From], To: number[a.To], Time: a.Time})
			}
			g := graph(t, other, road.Time)
			l := lift.Build(g)
			for i, w := range want.Cells {
				from, to := number[i/r.Places], number[i%r.Places]
				if d := Dist(l, from, to); d != w {
					t.Fatalf("%v by %v: from %d to %d: %d, want %d", r, number, from, to, d, w)
				}
				wayHolds(t, g, l, from, to, w)
			}
		}
	}
}

// TestLeastOfAllWays: the least weight is the least Weigh of all ways without a place twice (one with a place twice is no lighter).
func TestLeastOfAllWays(t *testing.T) {
	draw := rand.New(rand.NewSource(82))
	for range 200 {
		r := drawn(draw, 1+draw.Intn(5), draw.Intn(16), 1+draw.Intn(5))
		for _, m := range []road.Metric{road.Time, road.Dist} {
			g := graph(t, r, m)
			l := lift.Build(g)
			for p := range r.Places {
				best := slices.Repeat([]int{-1}, r.Places)
				ways(g, []int{p}, func(way []int) { lower(&best[way[len(way)-1]], short.Weigh(g, way)) })
				for to, w := range best {
					if d := Dist(l, p, to); d != w {
						t.Fatalf("%v: from %d to %d: %d, of all ways %d", r, p, to, d, w)
					}
				}
			}
		}
	}
}

// ways: all that begin so, without a place twice.
func ways(g *road.Graph, way []int, each func([]int)) {
	each(way)
	for _, e := range g.Out(way[len(way)-1]) {
		if !slices.Contains(way, e.To) {
			ways(g, append(slices.Clone(way), e.To), each)
		}
	}
}
