package reply

import "haulier/api"

// node is a value of a tree whose values stand in order. What it lacks reads as zero, and what it has too much isn't seen: Read holds the tree of what was read against all of it.
type node struct {
	tree  api.Tree
	value api.Value
}

func (n node) kid(i int) node {
	if i >= len(n.value.Kids) {
		return node{}
	}
	return node{tree: n.tree, value: n.tree[n.value.Kids[i]]}
}

func (n node) number() int { return n.value.Num }

func (n node) text() string { return n.value.Text }

// numbers reads kids that are numbers, from this one on.
func (n node) numbers(first int, into ...*int) {
	for i, x := range into {
		*x = n.kid(first + i).number()
	}
}

// each reads all kids by this function.
func each[T any](n node, read func(node) T) []T {
	var l []T
	for i := range n.value.Kids {
		l = append(l, read(n.kid(i)))
	}
	return l
}

func (n node) reply() api.Reply {
	if n.kid(0).text() == errorStatus {
		return api.Reply{Fault: n.fault()}
	}
	return api.Reply{
		Optimal: n.kid(1).value.Truth,
		Sums:    n.kid(2).sums(),
		Plans:   each(n.kid(3), node.plan),
		Left:    each(n.kid(4), node.task),
	}
}

func (n node) fault() api.Fault {
	return api.Fault{Code: api.Errno(n.kid(1).number()), At: n.kid(2).number(), Path: n.kid(3).text()}
}

func (n node) sums() api.Sums {
	var s api.Sums
	n.numbers(0, &s.Routes, &s.Value, &s.Cost, &s.Time, &s.Dist, &s.Wait, &s.Service, &s.Left)
	return s
}

func (n node) plan() api.Plan {
	var p api.Plan
	n.numbers(0, &p.Vehicle, &p.Cost, &p.Time, &p.Dist, &p.Wait, &p.Service)
	p.Steps = each(n.kid(6), node.step)
	return p
}

func (n node) step() api.Step {
	var s api.Step
	s.Visit.Kind = kindOf(n.kid(0).text())
	n.numbers(1, &s.Visit.Item, &s.Place, &s.Arrival, &s.Wait, &s.Service)
	s.Load = each(n.kid(6), node.number)
	n.numbers(7, &s.Time, &s.Dist)
	return s
}

func (n node) task() api.Task {
	return api.Task{Ship: n.kid(0).text() == shipmentType, Item: n.kid(1).number()}
}
