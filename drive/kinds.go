package drive

import (
	"iter"
	"slices"

	"haulier/api"
	"haulier/inner"
	"haulier/inter"
	"haulier/model"
	"haulier/seed"
)

// kinds: the kinds of change. Each makes those of its changes that are for the better, and tells whether there were any.
func (s *search) kinds() []func() bool {
	// A task that comes in betters more than any detour that is spared: so this goes first.
	kinds := []func() bool{s.fill}
	for _, change := range inner.All() {
		kinds = append(kinds, func() bool { return s.within(change) })
	}
	for _, change := range inter.All() {
		kinds = append(kinds, func() bool { return s.between(change) })
	}
	return kinds
}

// fill: puts each task that is left where it's best, those of the greatest priority first.
func (s *search) fill() bool {
	filled := false
	for _, t := range model.Tasks(s.p) {
		if slices.Contains(s.now.left(), first(t)) && s.put(t) {
			filled = true
		}
	}
	return filled
}

// put: puts a task that is left where it's best, if that is for the better.
func (s *search) put(t api.Task) bool {
	var best [][]api.Visit
	score, left := s.now.score, without(s.now.left(), t)
	for vehicle := range s.now.last() {
		for _, way := range seed.Ways(s.now.lists[vehicle], t) {
			lists := s.now.with(vehicle, way, s.now.last(), left)
			if seen := s.look(lists); seen.right && Better(seen.score, score) {
				best, score = lists, seen.score
			}
		}
	}
	if best == nil {
		return false
	}
	s.take(best)
	return true
}

// within: makes changes of one kind within each route. (One that may not be leaves its line as it is, so only behind others a new one is needed.)
func (s *search) within(change inner.Change) bool {
	changed := false
	for a := range s.now.last() {
		n := len(s.now.lists[a])
		line := inner.New(s.now.lists[a])
		for at := range s.places(n, n, n) {
			if !change(line, at.i, at.j, at.k) {
				continue
			}
			if s.takeBetter(s.now.with(a, line.Visits(), s.now.last(), s.now.left())) {
				changed = true
			}
			line = inner.New(s.now.lists[a])
		}
	}
	return changed
}

// between: makes changes of one kind between each two lists: routes, or a route and what is left.
func (s *search) between(change inter.Change) bool {
	changed := false
	for a := range s.now.lists {
		for b := range s.now.lists {
			if a != b && s.betweenTwo(change, a, b) {
				changed = true
			}
		}
	}
	return changed
}

// betweenTwo: makes changes of one kind between two lists.
func (s *search) betweenTwo(change inter.Change, a, b int) bool {
	changed := false
	n, m := len(s.now.lists[a]), len(s.now.lists[b])
	two := inter.New(s.now.lists[a], s.now.lists[b])
	// A second visit may stand one place behind the end of the second list, or at the end of the first.
	for at := range s.places(n+1, m+1, max(n+1, m+2)) {
		if !change(two, at.i, at.j, at.k) {
			continue
		}
		x, y := two.Visits()
		if s.takeBetter(s.now.with(a, x, b, y)) {
			changed = true
		}
		two = inter.New(s.now.lists[a], s.now.lists[b])
	}
	return changed
}

// places are the numbers with which a change is made.
type places struct{ i, j, k int }

// places: all that are below these numbers, as long as there's a step to take. (Many kinds don't ask for the third; what they make again is looked at once only.)
func (s *search) places(n, m, l int) iter.Seq[places] {
	return func(yield func(places) bool) {
		for i := range n {
			for j := range m {
				for k := range l {
					if !s.may() || !yield(places{i, j, k}) {
						return
					}
				}
			}
		}
	}
}
