package ask

import (
	"haulier/api"
	"haulier/climb"
	"haulier/lift"
	"haulier/road"
)

// matrices: the times and distances of the graph or the matrix, whichever is there.
func matrices(graph, matrix node) (time, dist api.Matrix) {
	switch {
	case graph.there() && matrix.there():
		matrix.fail(api.ErrBoth)
	case matrix.there():
		return told(matrix)
	case !graph.there():
		graph.fail(api.ErrMissing)
	}
	r := roads(graph)
	return least(r, road.Time), least(r, road.Dist)
}

// roads: the road of a graph.
func roads(n node) api.Road {
	n.object("places", "arcs")
	places := n.must("places").number(1, api.MaxPlaces)
	arcs := each(n.must("arcs").atMost(api.MaxArcs), func(n node) api.Arc { return arc(n, places) })
	return api.Road{Places: places, Arcs: arcs}
}

// arc: a road from a place to a place.
func arc(n node, places int) api.Arc {
	l := n.just(4)
	return api.Arc{
		From: l[0].place(places),
		To:   l[1].place(places),
		Time: l[2].number(0, api.MaxNumber),
		Dist: l[3].number(0, api.MaxNumber),
	}
}

// least: the weights of a road's shortest ways by a metric.
func least(r api.Road, m road.Metric) api.Matrix {
	// Of a road that was read nothing is wrong any more.
	g, _ := road.New(r, m)
	return climb.Table(lift.Build(g))
}

// told: matrices that are told number by number. That of the times says how many places there are.
func told(n node) (time, dist api.Matrix) {
	n.object("time", "dist")
	times := n.must("time")
	rows := times.atMost(api.MaxPlaces)
	if len(rows) == 0 {
		times.fail(api.ErrSize)
	}
	time = square(rows)
	dists := n.must("dist")
	rows = dists.atMost(api.MaxPlaces)
	if len(rows) != time.N {
		dists.fail(api.ErrSize)
	}
	return time, square(rows)
}

// square: a matrix of as many numbers a row as there are rows.
func square(rows []node) api.Matrix {
	m := api.Matrix{N: len(rows)}
	for i, row := range rows {
		for j, n := range row.just(m.N) {
			m.Cells = append(m.Cells, cell(n, i == j))
		}
	}
	return m
}

// cell: a number from a place to a place, or to itself; -1, if there is no way.
func cell(n node, itself bool) int {
	way := -1
	if n.value.Kind != api.Null {
		way = n.number(0, api.MaxNumber)
	}
	if itself && way != 0 {
		n.fail(api.ErrRange)
	}
	return way
}
