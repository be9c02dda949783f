package drive

import (
	"slices"

	"haulier/api"
	"haulier/model"
	"haulier/seed"
)

// tours is a right solution under way.
type tours struct {
	// Of each vehicle its visits; the last list has the visits of all tasks that are left, so that a change between two routes may put tasks in and take them out as well. No list is ever written over, so tours may share them.
	lists [][]api.Visit
	// Of each vehicle.
	costs []int
	score api.Score
}

// toursOf: of a solution whose routes are right.
func toursOf(p api.Problem, s api.Solution) tours {
	var lists [][]api.Visit
	for vehicle := range p.Vehicles {
		lists = append(lists, seed.Visits(s, vehicle))
	}
	var left []api.Visit
	for _, t := range Left(p, s) {
		left = append(left, model.Visits(t)...)
	}
	// Vehicles without visits cost nothing.
	none := tours{lists: make([][]api.Visit, len(lists)), costs: make([]int, len(lists))}
	x, _ := none.changed(p, append(lists, left))
	return x
}

// last: the place of the list of what is left.
func (x tours) last() int { return len(x.costs) }

// left: the visits of what is left.
func (x tours) left() []api.Visit { return x.lists[x.last()] }

// driven: the tasks that aren't left.
func (x tours) driven() []api.Task { return tasks(slices.Concat(x.lists[:x.last()]...)) }

// where: the place of the list that has a task.
func (x tours) where(t api.Task) int {
	return slices.IndexFunc(x.lists, func(l []api.Visit) bool { return slices.Contains(l, first(t)) })
}

// with: the lists, two of them replaced.
func (x tours) with(a int, one []api.Visit, b int, other []api.Visit) [][]api.Visit {
	lists := slices.Clone(x.lists)
	lists[a], lists[b] = one, other
	return lists
}

// changed: what becomes of the tours with these lists; false: they aren't right then.
func (x tours) changed(p api.Problem, lists [][]api.Visit) (tours, bool) {
	y := tours{lists: lists, costs: slices.Clone(x.costs)}
	for vehicle := range y.costs {
		visits := lists[vehicle]
		// To fit a route takes long, and most changes leave most routes as they are.
		if !slices.Equal(visits, x.lists[vehicle]) {
			cost, e := seed.Cost(p, vehicle, visits)
			if e != api.OK {
				return tours{}, false
			}
			y.costs[vehicle] = cost
		}
		y.score.Value += value(p, visits)
		y.score.Cost += y.costs[vehicle]
	}
	return y, true
}

// key: a text that just the lists with the same routes have. (In a problem no item is above a byte.)
func (x tours) key(lists [][]api.Visit) string {
	var text []byte
	for _, visits := range lists[:x.last()] {
		for _, v := range visits {
			text = append(text, byte(v.Kind), byte(v.Item))
		}
		text = append(text, 0)
	}
	return string(text)
}

// solution: the tours as routes.
func (x tours) solution() api.Solution {
	var s api.Solution
	for vehicle := range x.costs {
		s = seed.With(s, vehicle, x.lists[vehicle])
	}
	return s
}
