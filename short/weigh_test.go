package short

import (
	"math"
	"math/rand"
	"testing"

	"haulier/api"
	"haulier/road"
)

// square: 0 to 1 to 2 to 3 to 0, and back from 2 to 1; some edges weigh nothing; place 4 stands alone.
func square() api.Road {
	return api.Road{Places: 5, Arcs: []api.Arc{
		{From: 0, To: 1, Time: 4, Dist: 0},
		{From: 1, To: 2, Time: 0, Dist: 7},
		{From: 2, To: 3, Time: 3, Dist: 0},
		{From: 3, To: 0, Time: 0, Dist: 0},
		{From: 2, To: 1, Time: 5, Dist: 2},
		{From: 2, To: 1, Time: 6, Dist: 1},
		{From: 2, To: 2, Time: 0, Dist: 0},
	}}
}

func TestWeigh(t *testing.T) {
	byTime, byDist := graph(t, square(), road.Time), graph(t, square(), road.Dist)
	for _, c := range []struct {
		name       string
		way        []int
		time, dist int
	}{
		{"no place", nil, -1, -1},
		{"no place", []int{}, -1, -1},
		{"one place", []int{0}, 0, 0},
		{"one place", []int{3}, 0, 0},
		{"one place that stands alone", []int{4}, 0, 0},
		{"one place below 0", []int{-1}, -1, -1},
		{"one place too great", []int{5}, -1, -1},
		{"one edge", []int{0, 1}, 4, 0},
		{"one edge of weight 0", []int{1, 2}, 0, 7},
		{"an edge of weight 0", []int{3, 0}, 0, 0},
		{"the lightest of two arcs", []int{2, 1}, 5, 1},
		{"three edges", []int{0, 1, 2, 3}, 7, 7},
		{"all round", []int{0, 1, 2, 3, 0}, 7, 7},
		{"round and on", []int{3, 0, 1, 2, 3, 0, 1}, 11, 7},
		{"to and fro", []int{1, 2, 1, 2, 1, 2}, 10, 23},
		{"an edge against its direction", []int{1, 0}, -1, -1},
		{"no edge, first", []int{0, 2, 3}, -1, -1},
		{"no edge, in the middle", []int{0, 1, 3, 0}, -1, -1},
		{"no edge, last", []int{0, 1, 2, 0}, -1, -1},
		{"no edge to one that stands alone", []int{0, 4}, -1, -1},
		{"no edge from one that stands alone", []int{4, 0}, -1, -1},
		{"a place and itself", []int{2, 2}, -1, -1},
		{"a place and itself, later", []int{1, 2, 2, 3}, -1, -1},
		{"first below 0", []int{-1, 0, 1}, -1, -1},
		{"first too great", []int{5, 0, 1}, -1, -1},
		{"later below 0", []int{0, -1}, -1, -1},
		{"later too great", []int{0, 1, 5}, -1, -1},
		{"in the middle below 0", []int{0, -1, 1}, -1, -1},
		{"far away", []int{math.MinInt}, -1, -1},
		{"far away", []int{math.MaxInt, 0}, -1, -1},
		{"far away", []int{0, math.MaxInt, math.MinInt}, -1, -1},
	} {
		if w := Weigh(byTime, c.way); w != c.time {
			t.Errorf("%s: Weigh by Time of %v: %d, want %d", c.name, c.way, w, c.time)
		}
		if w := Weigh(byDist, c.way); w != c.dist {
			t.Errorf("%s: Weigh by Dist of %v: %d, want %d", c.name, c.way, w, c.dist)
		}
	}
}

// TestWeighAllLists: all short lists of numbers, places or not, over all roads of a kind.
func TestWeighAllLists(t *testing.T) {
	gridded(3, [][2]int{{0, 2}, {1, 0}}, func(r api.Road) {
		byTime, byDist := graph(t, r, road.Time), graph(t, r, road.Dist)
		lists([]int{-1, 0, 1, 2, 3}, 4, func(way []int) {
			if w := Weigh(byTime, way); w != plainWeigh(r, road.Time, way) {
				t.Fatalf("%v: Weigh by Time of %v: %d", r, way, w)
			}
			if w := Weigh(byDist, way); w != plainWeigh(r, road.Dist, way) {
				t.Fatalf("%v: Weigh by Dist of %v: %d", r, way, w)
			}
		})
	})
}

// lists: all of at most so many of these numbers.
func lists(of []int, most int, each func([]int)) {
	var longer func(list []int)
	longer = func(list []int) {
		each(list)
		if len(list) == most {
			return
		}
		for _, n := range of {
			longer(append(list, n))
		}
	}
	longer(nil)
}

// TestWeighDrawnWays: walks over drawn roads, which may come to a place often.
func TestWeighDrawnWays(t *testing.T) {
	draw := rand.New(rand.NewSource(61))
	for range 300 {
		r := drawn(draw, 2+draw.Intn(6), 5+draw.Intn(20), 1+draw.Intn(9))
		for _, m := range metrics() {
			g := graph(t, r, m)
			way := []int{draw.Intn(r.Places)}
			for range 12 {
				if w := Weigh(g, way); w < 0 || w != plainWeigh(r, m, way) {
					t.Fatalf("%v: Weigh of %v: %d", r, way, w)
				}
				out := g.Out(way[len(way)-1])
				if len(out) == 0 {
					break
				}
				way = append(way, out[draw.Intn(len(out))].To)
			}
		}
	}
}

func TestWeighLongWay(t *testing.T) {
	r := api.Road{Places: 2, Arcs: []api.Arc{{From: 0, To: 1, Time: api.MaxNumber}, {From: 1, To: 0, Time: api.MaxNumber, Dist: 1}}}
	way := make([]int, 100001)
	for i := range way {
		way[i] = i % 2
	}
	if w := Weigh(graph(t, r, road.Time), way); w != 100000*api.MaxNumber {
		t.Errorf("by Time: %d", w)
	}
	if w := Weigh(graph(t, r, road.Dist), way); w != 50000 {
		t.Errorf("by Dist: %d", w)
	}
}
