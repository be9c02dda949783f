package drive

import (
	"slices"

	"haulier/api"
	"haulier/model"
)

// patience: after so many shakes in a row that led to nothing better the search ends, even if there are steps.
const patience = 16

// search is a search under way.
type search struct {
	p     api.Problem
	now   tours
	steps int
	taken int
	luck  luck
	// What was looked at since the last shake. The same comes of many changes: to look at it again would be a step for nothing. (Over all shakes it would be too much to keep.)
	seen map[string]view
}

// view is what one sees of a solution.
type view struct {
	score api.Score
	right bool
}

// run: climbs; then, again and again, shakes and climbs, and goes back if that led to a worse solution.
func (s *search) run() {
	s.climb()
	for idle := 0; idle < patience && s.may() && len(s.now.driven()) > 0; idle++ {
		was := s.now
		clear(s.seen)
		s.shake()
		s.climb()
		if Better(s.now.score, was.score) {
			idle = -1
		} else if s.now.score != was.score {
			s.now = was
		}
	}
}

// climb: makes changes of all kinds, until none of them is for the better.
func (s *search) climb() {
	kinds := s.kinds()
	for next, idle := 0, 0; idle < len(kinds) && s.may(); next = (next + 1) % len(kinds) {
		idle++
		if kinds[next]() {
			idle = 0
		}
	}
}

// shake: takes out tasks that are drawn, at most half of those that are driven (of one, that one).
func (s *search) shake() {
	for range 1 + s.luck.pick((len(s.now.driven())+1)/2) {
		driven := s.now.driven()
		s.takeOut(driven[s.luck.pick(len(driven))])
	}
}

// takeOut: leaves a task, if what stays is right: without a stop the way may be longer, or none.
func (s *search) takeOut(t api.Task) {
	from, left := s.now.where(t), s.now.last()
	lists := s.now.with(from, without(s.now.lists[from], t), left, slices.Concat(s.now.left(), model.Visits(t)))
	if s.look(lists).right {
		s.take(lists)
	}
}

// may: is there a step to take?
func (s *search) may() bool { return s.taken < s.steps }

// look: takes a step to look at the solution of these lists, if it wasn't looked at. Without a step one sees nothing, so nothing right.
func (s *search) look(lists [][]api.Visit) view {
	key := s.now.key(lists)
	seen, is := s.seen[key]
	if is || !s.may() {
		return seen
	}
	s.taken++
	x, right := s.now.changed(s.p, lists)
	s.seen[key] = view{x.score, right}
	return s.seen[key]
}

// take: goes on to the solution of these lists, at which one has looked.
func (s *search) take(lists [][]api.Visit) { s.now, _ = s.now.changed(s.p, lists) }

// takeBetter: looks at the solution of these lists, and goes on to it if it's better.
func (s *search) takeBetter(lists [][]api.Visit) bool {
	seen := s.look(lists)
	if !seen.right || !Better(seen.score, s.now.score) {
		return false
	}
	s.take(lists)
	return true
}
