package climb

import (
	"slices"
	"testing"

	"haulier/api"
)

// These tests hand in links of their own, since a graph may be lifted in other ways than it is: several links may have the same ends, in any order, and shortcuts may stand in one another more often than they need.

// orders: all orders of the links.
func orders(links []api.Link, each func([]api.Link)) {
	var longer func(done, rest []api.Link)
	longer = func(done, rest []api.Link) {
		if len(rest) == 0 {
			each(done)
		}
		for i, k := range rest {
			longer(append(slices.Clone(done), k), slices.Concat(rest[:i], rest[i+1:]))
		}
	}
	longer(nil, links)
}

// at: of each place those of the links that have it at that end.
func at(links []api.Link, end func(api.Link) int) func(int) []api.Link {
	return func(p int) []api.Link {
		return slices.DeleteFunc(slices.Clone(links), func(k api.Link) bool { return end(k) != p })
	}
}

// TestSeveralLinks: of links with the same ends a side climbs by the lightest one, whichever comes first.
func TestSeveralLinks(t *testing.T) {
	links := []api.Link{
		{From: 0, To: 1, Weight: 5, Mid: -1},
		{From: 0, To: 1, Weight: 3, Mid: -1},
		{From: 0, To: 2, Weight: 9, Mid: -1},
		{From: 1, To: 2, Weight: 1, Mid: -1},
		{From: 1, To: 2, Weight: 4, Mid: -1},
		{From: 0, To: 3, Weight: 4, Mid: -1},
	}
	orders(links, func(some []api.Link) {
		s := side{links: at(some, tail), lower: tail, upper: head, base: 0}
		s.climb(5)
		if !slices.Equal(s.least, []int{0, 3, 4, 4, 0}) || !slices.Equal(s.closed, []bool{true, true, true, true, false}) {
			t.Fatalf("by %v: %v, %v", some, s.least, s.closed)
		}
		if back := s.back(2); !slices.Equal(back, []api.Link{links[3], links[1]}) {
			t.Fatalf("by %v: back from 2: %v", some, back)
		}
		turned := side{links: at(some, head), lower: head, upper: tail, base: 2}
		turned.climb(5)
		if !slices.Equal(turned.least, []int{4, 1, 0, 0, 0}) || !slices.Equal(turned.closed, []bool{true, true, true, false, false}) {
			t.Fatalf("by %v, against them: %v, %v", some, turned.least, turned.closed)
		}
		if back := turned.back(0); !slices.Equal(back, []api.Link{links[1], links[3]}) {
			t.Fatalf("by %v, against them: back from 0: %v", some, back)
		}
	})
}

// TestShortcutOverTheLightest: a shortcut stands for the lightest links with its ends and its Mid, whichever comes first, edges or shortcuts themselves.
func TestShortcutOverTheLightest(t *testing.T) {
	links := []api.Link{
		{From: 2, To: 1, Weight: 9, Mid: -1},
		{From: 2, To: 1, Weight: 5, Mid: 0},
		{From: 2, To: 0, Weight: 2, Mid: -1},
		{From: 0, To: 1, Weight: 3, Mid: -1},
		{From: 1, To: 3, Weight: 7, Mid: -1},
		{From: 1, To: 3, Weight: 8, Mid: 0},
	}
	orders(links, func(some []api.Link) {
		o := opener{up: at(some, tail), down: at(some, head), ways: map[[2]int][]int{}}
		if way := o.open(api.Link{From: 2, To: 3, Weight: 12, Mid: 1}); !slices.Equal(way, []int{2, 0, 1, 3}) {
			t.Fatalf("of %v: %v", some, way)
		}
	})
}

// TestShortcutsWithinShortcuts: where nothing weighs anything, each pair of 32 places may have a shortcut over the place below both, down to place 0, and the last one would then stand for 2 to the 30 links: it is opened nonetheless, into a way that comes to no place twice.
func TestShortcutsWithinShortcuts(t *testing.T) {
	var links []api.Link
	for from := range api.MaxPlaces {
		for to := range api.MaxPlaces {
			if from != to {
				links = append(links, api.Link{From: from, To: to, Mid: min(from, to) - 1})
			}
		}
	}
	higher := func(end, other func(api.Link) int) func(int) []api.Link {
		all := at(links, end)
		return func(p int) []api.Link {
			return slices.DeleteFunc(all(p), func(k api.Link) bool { return other(k) < p })
		}
	}
	o := opener{up: higher(tail, head), down: higher(head, tail), ways: map[[2]int][]int{}}
	for range 2 {
		for _, k := range slices.Backward(links) {
			want := []int{k.From, 0, k.To}
			if k.Mid == -1 {
				want = []int{k.From, k.To}
			}
			if way := o.open(k); !slices.Equal(way, want) {
				t.Fatalf("%v: %v, want %v", k, way, want)
			}
		}
	}
}

// TestJoined: two ways become one, in which no place stands twice, and stay as they are.
func TestJoined(t *testing.T) {
	for _, c := range []struct{ a, b, want []int }{
		{[]int{4}, []int{4}, []int{4}},
		{[]int{4}, []int{4, 7}, []int{4, 7}},
		{[]int{4, 7}, []int{7}, []int{4, 7}},
		{[]int{4, 7}, []int{7, 2, 3}, []int{4, 7, 2, 3}},
		{[]int{4, 7, 2}, []int{2, 7, 9}, []int{4, 7, 9}},
		{[]int{4, 7, 2}, []int{2, 3, 4}, []int{4}},
		{[]int{4, 7, 2}, []int{2, 8, 7, 6, 4, 1}, []int{4, 1}},
	} {
		a, b := append(slices.Clone(c.a), 70, 71), append(slices.Clone(c.b), 72)
		if way := joined(a[:len(c.a)], b[:len(c.b)]); !slices.Equal(way, c.want) {
			t.Errorf("%v and %v: %v, want %v", c.a, c.b, way, c.want)
		}
		if !slices.Equal(a, append(slices.Clone(c.a), 70, 71)) || !slices.Equal(b, append(slices.Clone(c.b), 72)) {
			t.Errorf("%v and %v are %v and %v now", c.a, c.b, a, b)
		}
	}
}
