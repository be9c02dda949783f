package road

import (
	"math"
	"slices"
	"testing"

	"haulier/api"
)

// checks: does Check answer this number and this error, and New this error, with a graph if it is none and nil else?
func checks(t *testing.T, name string, r api.Road, at int, want api.Errno) {
	t.Helper()
	if i, e := Check(r); i != at || e != want {
		t.Errorf("Check of %s: %d, %d, want %d, %d", name, i, e, at, want)
	}
	for _, m := range []Metric{Time, Dist, unasked(t, want)} {
		if g, e := New(r, m); e != want || (g != nil) != (want == api.OK) {
			t.Errorf("New of %s: %v, %d, want the error %d", name, g, e, want)
		}
	}
}

// unasked: a metric that isn't to be asked, if there is an error.
func unasked(t *testing.T, e api.Errno) Metric {
	return func(a api.Arc) int {
		if e != api.OK {
			t.Errorf("the metric was asked about %v, of a road with the error %d", a, e)
		}
		return 0
	}
}

// arcs: so many arcs with which nothing is wrong, of any road.
func arcs(n int) []api.Arc { return make([]api.Arc, n) }

func TestTimeAndDist(t *testing.T) {
	for _, n := range []int{0, 1, -1, 7, api.MaxNumber, api.MaxNumber + 1, math.MinInt, math.MaxInt} {
		a := api.Arc{From: 3, To: 4, Time: n, Dist: 5}
		if Time(a) != n || Dist(a) != 5 {
			t.Errorf("of %v: Time %d, Dist %d", a, Time(a), Dist(a))
		}
		a = api.Arc{From: 3, To: 4, Time: 5, Dist: n}
		if Time(a) != 5 || Dist(a) != n {
			t.Errorf("of %v: Time %d, Dist %d", a, Time(a), Dist(a))
		}
	}
}

func TestNumberOfPlaces(t *testing.T) {
	if api.MaxPlaces != 32 {
		t.Errorf("MaxPlaces: %d", api.MaxPlaces)
	}
	for n := 1; n <= api.MaxPlaces; n++ {
		checks(t, "places that may be", api.Road{Places: n}, -1, api.OK)
		checks(t, "places that may be", api.Road{Places: n, Arcs: arcs(2)}, -1, api.OK)
	}
	for _, n := range []int{0, -1, -32, api.MaxPlaces + 1, api.MaxPlaces + 2, 64, math.MinInt, math.MaxInt} {
		checks(t, "too few or too many places", api.Road{Places: n}, -1, api.ErrRange)
		checks(t, "too few or too many places", api.Road{Places: n, Arcs: arcs(2)}, -1, api.ErrRange)
		wrong := []api.Arc{{From: -1}, {Time: -1}}
		checks(t, "too few or too many places and wrong arcs", api.Road{Places: n, Arcs: wrong}, -1, api.ErrRange)
	}
}

func TestNumberOfArcs(t *testing.T) {
	if api.MaxArcs != 256 {
		t.Errorf("MaxArcs: %d", api.MaxArcs)
	}
	for _, n := range []int{0, 1, api.MaxArcs - 1, api.MaxArcs} {
		checks(t, "arcs that may be", api.Road{Places: 1, Arcs: arcs(n)}, -1, api.OK)
		checks(t, "arcs that may be", api.Road{Places: api.MaxPlaces, Arcs: arcs(n)}, -1, api.OK)
	}
	for _, n := range []int{api.MaxArcs + 1, api.MaxArcs + 2, 10 * api.MaxArcs} {
		r := api.Road{Places: 2, Arcs: arcs(n)}
		checks(t, "too many arcs", r, -1, api.ErrRange)
		r.Arcs[0] = api.Arc{From: 2}
		checks(t, "too many arcs, the first wrong", r, -1, api.ErrRange)
		r.Arcs[0] = api.Arc{Time: -1}
		checks(t, "too many arcs, the first wrong", r, -1, api.ErrRange)
	}
	r := api.Road{Places: 2, Arcs: arcs(api.MaxArcs)}
	r.Arcs[api.MaxArcs-1] = api.Arc{To: 2}
	checks(t, "MaxArcs arcs, the last wrong", r, api.MaxArcs-1, api.ErrPlace)
	r.Arcs[api.MaxArcs-1] = api.Arc{Dist: -1}
	checks(t, "MaxArcs arcs, the last wrong", r, api.MaxArcs-1, api.ErrRange)
}

func TestEndsOfArcs(t *testing.T) {
	for _, places := range []int{1, 2, 3, 31, api.MaxPlaces} {
		for p := range places {
			checks(t, "From a place", api.Road{Places: places, Arcs: []api.Arc{{From: p}}}, -1, api.OK)
			checks(t, "To a place", api.Road{Places: places, Arcs: []api.Arc{{To: p}}}, -1, api.OK)
		}
		for _, p := range []int{-1, -2, places, places + 1, math.MinInt, math.MaxInt} {
			for _, a := range []api.Arc{{From: p}, {To: p}, {From: p, To: p}} {
				checks(t, "an end that isn't there", api.Road{Places: places, Arcs: []api.Arc{a}}, 0, api.ErrPlace)
				checks(t, "an end that isn't there, behind others", api.Road{Places: places, Arcs: append(arcs(5), a)}, 5, api.ErrPlace)
			}
		}
	}
}

func TestNumbersOfArcs(t *testing.T) {
	if api.MaxNumber != 1000000 {
		t.Errorf("MaxNumber: %d", api.MaxNumber)
	}
	for _, n := range []int{0, 1, 2, 999999, api.MaxNumber} {
		for _, a := range []api.Arc{{Time: n}, {Dist: n}, {Time: n, Dist: n}} {
			checks(t, "a number that may be", api.Road{Places: 1, Arcs: []api.Arc{a}}, -1, api.OK)
		}
	}
	for _, n := range []int{-1, -2, -api.MaxNumber, api.MaxNumber + 1, 2 * api.MaxNumber, math.MinInt, math.MaxInt} {
		for _, a := range []api.Arc{{Time: n}, {Dist: n}, {Time: n, Dist: n}, {To: 1, Time: n}, {From: 1, Dist: n}} {
			checks(t, "a number that may not be", api.Road{Places: 2, Arcs: []api.Arc{a}}, 0, api.ErrRange)
			checks(t, "a number that may not be, behind others", api.Road{Places: 2, Arcs: append(arcs(4), a, a)}, 4, api.ErrRange)
		}
	}
}

// TestFirstFault: of all rows of a few arcs, right and wrong ones, the first wrong one is told, and of its faults the place ahead of the number.
func TestFirstFault(t *testing.T) {
	kinds := []struct {
		arc  api.Arc
		want api.Errno
	}{
		{api.Arc{From: 0, To: 1, Time: 3, Dist: 4}, api.OK},
		{api.Arc{From: 2, To: 1, Time: 3, Dist: 4}, api.ErrPlace},
		{api.Arc{From: 0, To: -1, Time: 3, Dist: 4}, api.ErrPlace},
		{api.Arc{From: 0, To: 1, Time: -3, Dist: 4}, api.ErrRange},
		{api.Arc{From: 0, To: 1, Time: 3, Dist: api.MaxNumber + 1}, api.ErrRange},
		{api.Arc{From: 2, To: 1, Time: -3, Dist: 4}, api.ErrPlace},
		{api.Arc{From: 0, To: 2, Time: 3, Dist: -4}, api.ErrPlace},
	}
	var row func(r api.Road, at int, want api.Errno)
	row = func(r api.Road, at int, want api.Errno) {
		checks(t, "a row of arcs", r, at, want)
		if len(r.Arcs) == 3 {
			return
		}
		for _, k := range kinds {
			longer := api.Road{Places: r.Places, Arcs: append(slices.Clone(r.Arcs), k.arc)}
			if want == api.OK && k.want != api.OK {
				row(longer, len(r.Arcs), k.want)
			} else {
				row(longer, at, want)
			}
		}
	}
	row(api.Road{Places: 2}, -1, api.OK)
}
