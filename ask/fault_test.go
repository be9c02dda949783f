package ask_test

import (
	"math/rand"
	"slices"
	"testing"

	"haulier/api"
)

// turned: the fields of all objects the other way round.
func turned(v any) any {
	switch x := v.(type) {
	case list:
		l := list{}
		for _, kid := range x {
			l = append(l, turned(kid))
		}
		return l
	case obj:
		o := obj{}
		for _, p := range slices.Backward(x) {
			o = append(o, pair{p.name, turned(p.value)})
		}
		return o
	}
	return v
}

// TestEachType: every value of another kind, at each path.
func TestEachType(t *testing.T) {
	for _, sample := range []obj{town(), lake()} {
		for _, path := range paths(sample) {
			was, _ := seek(sample, path...)
			for _, other := range []any{nil, true, "", "1", 0, list{}, obj{}} {
				_, isInt := was.(int)
				_, isList := was.(list)
				_, isObj := was.(obj)
				_, toInt := other.(int)
				_, toList := other.(list)
				_, toObj := other.(obj)
				// A matrix's numbers may be null, too.
				cell := len(path) == 4 && path[0] == "matrix"
				if isInt && toInt || isList && toList || isObj && toObj || cell && (other == nil || other == 0) {
					continue
				}
				faulty(t, put(sample, other, path...), api.ErrType, path...)
			}
		}
	}
}

// TestEachName: one more field in each object, at its beginning, its end and between; also with names that are those of other objects, or nearly right.
func TestEachName(t *testing.T) {
	for _, sample := range []obj{town(), lake()} {
		for _, path := range paths(sample) {
			v, _ := seek(sample, path...)
			o, is := v.(obj)
			if !is {
				continue
			}
			for _, name := range names() {
				for at := range len(o) + 1 {
					if _, is := seek(o, name); is || slices.Contains(mayHave(path), name) {
						continue
					}
					request := put(sample, slices.Insert(slices.Clone(o), at, pair{name, nil}), path...)
					faulty(t, request, api.ErrField, append(slices.Clone(path), name)...)
				}
			}
		}
	}
}

// mayHave: the names that the object at a path of a sample knows.
func mayHave(path []any) []string {
	if len(path) == 0 {
		return []string{"dims", "graph", "matrix", "vehicles", "jobs", "shipments"}
	}
	switch path[len(path)-1] {
	case "graph":
		return []string{"places", "arcs"}
	case "matrix":
		return []string{"time", "dist"}
	case "pickup", "delivery":
		return []string{"place", "service", "windows"}
	}
	switch path[len(path)-2] {
	case "vehicles":
		return []string{"start", "end", "capacity", "skills", "shift", "fixed", "per_time", "per_dist", "max_tasks", "breaks"}
	case "breaks":
		return []string{"windows", "service"}
	case "jobs":
		return []string{"place", "service", "windows", "drop", "pick", "skills", "priority"}
	}
	return []string{"pickup", "delivery", "amount", "skills", "priority"}
}

// TestFirstName: of several names that aren't known the first one of the text, ahead of all that is wrong with fields.
func TestFirstName(t *testing.T) {
	faulty(t, obj{{"y", 1}, {"x", 1}}, api.ErrField, "y")
	faulty(t, obj{{"dims", 9}, {"graph", 1}, {"matrix", 1}, {"y", 1}, {"x", 1}}, api.ErrField, "y")
	car := obj{{"start", 9}, {"b", obj{}}, {"a", 2}, {"end", nil}}
	faulty(t, put(plain(1), list{car}, "vehicles"), api.ErrField, "vehicles", 0, "b")
	// Names of any letters, points and nothing: they stand in the path as they are.
	faulty(t, obj{{"", 1}}, api.ErrField)
	faulty(t, obj{{"a.b", 1}}, api.ErrField, "a.b")
	faulty(t, obj{{".", 1}}, api.ErrField, ".")
	faulty(t, obj{{"größe", 1}}, api.ErrField, "größe")
	faulty(t, put(plain(1), list{obj{{"", 1}}}, "vehicles"), api.ErrField, "vehicles", 0, "")
	faulty(t, put(plain(1), obj{{"7", 1}}, "graph"), api.ErrField, "graph", "7")
}

// TestEachBound: each number at its bounds, and one beyond.
func TestEachBound(t *testing.T) {
	bound := func(sample obj, least, most int, outside api.Errno, path ...any) {
		t.Helper()
		if _, is := seek(sample, path...); !is {
			t.Fatalf("the test's own path is none: %v", path)
		}
		for _, n := range []int{least, most, (least + most) / 2} {
			lawful(t, put(sample, n, path...))
		}
		for _, n := range []int{least - 1, least - 2, most + 1, most + 2, most + 1<<32, least - 1<<32, 1<<62 - 1, -1<<62 + 1} {
			faulty(t, put(sample, n, path...), outside, path...)
		}
	}
	// Amounts fall away, so that any number of dimensions fits.
	dims := put(lake(), 2, "dims").(obj)
	bound(dims, 0, 3, api.ErrRange, "dims")
	bound(plain(1), 1, 32, api.ErrRange, "graph", "places")
	bound(lake(), 0, 3, api.ErrPlace, "graph", "arcs", 0, 0)
	bound(lake(), 0, 3, api.ErrPlace, "graph", "arcs", 5, 1)
	bound(lake(), 0, 1000000, api.ErrRange, "graph", "arcs", 1, 2)
	bound(lake(), 0, 1000000, api.ErrRange, "graph", "arcs", 2, 3)
	for i := range 3 {
		for j := range 3 {
			most := 1000000
			if i == j {
				most = 0
			}
			bound(town(), 0, most, api.ErrRange, "matrix", "time", i, j)
			bound(town(), 0, most, api.ErrRange, "matrix", "dist", i, j)
		}
	}
	for i := range 2 {
		bound(town(), 0, 2, api.ErrPlace, "vehicles", i, "start")
		bound(town(), 0, 2, api.ErrPlace, "vehicles", i, "end")
		bound(town(), 0, 1000000, api.ErrRange, "vehicles", i, "capacity", 0)
		bound(town(), 0, 1000000, api.ErrRange, "vehicles", i, "capacity", 1)
		bound(town(), 0, 1000000, api.ErrRange, "vehicles", i, "fixed")
		bound(town(), 0, 1000000, api.ErrRange, "vehicles", i, "per_time")
		bound(town(), 0, 1000000, api.ErrRange, "vehicles", i, "per_dist")
		bound(town(), 0, 12, api.ErrRange, "vehicles", i, "max_tasks")
		bound(town(), 0, 1000000, api.ErrRange, "vehicles", 0, "breaks", i, "service")
		bound(town(), 0, 2, api.ErrPlace, "jobs", i, "place")
		bound(town(), 0, 1000000, api.ErrRange, "jobs", i, "service")
		bound(town(), 0, 1000000, api.ErrRange, "jobs", i, "drop", 1)
		bound(town(), 0, 1000000, api.ErrRange, "jobs", i, "pick", 0)
		bound(town(), 0, 100, api.ErrRange, "jobs", i, "priority")
	}
	for _, half := range []any{"pickup", "delivery"} {
		bound(town(), 0, 2, api.ErrPlace, "shipments", 0, half, "place")
		bound(town(), 0, 1000000, api.ErrRange, "shipments", 0, half, "service")
	}
	bound(town(), 0, 1000000, api.ErrRange, "shipments", 0, "amount", 1)
	bound(town(), 0, 100, api.ErrRange, "shipments", 0, "priority")
	bound(town(), 0, 61, api.ErrRange, "vehicles", 1, "skills", 0)
	bound(put(town(), list{7}, "jobs", 1, "skills").(obj), 0, 61, api.ErrRange, "jobs", 1, "skills", 0)
	bound(town(), 0, 61, api.ErrRange, "shipments", 0, "skills", 0)
}

// TestItself: from a place to itself there is a way, of 0.
func TestItself(t *testing.T) {
	for i := range 3 {
		for _, name := range []any{"time", "dist"} {
			faulty(t, put(town(), nil, "matrix", name, i, i), api.ErrRange, "matrix", name, i, i)
			faulty(t, put(town(), "", "matrix", name, i, i), api.ErrType, "matrix", name, i, i)
		}
	}
	// It is looked at with its row: ahead of what is behind it, behind what is ahead of it.
	request := put(town(), 1, "matrix", "time", 1, 1)
	faulty(t, put(request, -1, "matrix", "time", 1, 2), api.ErrRange, "matrix", "time", 1, 1)
	faulty(t, put(request, list{}, "matrix", "time", 2), api.ErrRange, "matrix", "time", 1, 1)
	faulty(t, put(request, -1, "matrix", "time", 1, 0), api.ErrRange, "matrix", "time", 1, 0)
	faulty(t, put(request, list{}, "matrix", "time", 0), api.ErrSize, "matrix", "time", 0)
}

// TestMatrixSizes: rows that are too few, too many, too short or too long.
func TestMatrixSizes(t *testing.T) {
	for _, name := range []any{"time", "dist"} {
		for i := range 3 {
			faulty(t, put(town(), list{}, "matrix", name, i), api.ErrSize, "matrix", name, i)
			faulty(t, put(town(), gone{}, "matrix", name, i, 0), api.ErrSize, "matrix", name, i)
			faulty(t, put(town(), 0, "matrix", name, i, 3), api.ErrSize, "matrix", name, i)
		}
		for n := 33; n < 40; n++ {
			faulty(t, put(town(), slices.Repeat(list{list{}}, n), "matrix", name), api.ErrMany, "matrix", name)
			faulty(t, put(town(), slices.Repeat(list{nil}, n), "matrix", name), api.ErrMany, "matrix", name)
		}
	}
	faulty(t, put(town(), list{}, "matrix", "time"), api.ErrSize, "matrix", "time")
	faulty(t, put(town(), list{}, "matrix", "dist"), api.ErrSize, "matrix", "dist")
	// The times say how many places there are, and so how long each row must be.
	faulty(t, put(town(), gone{}, "matrix", "time", 2), api.ErrSize, "matrix", "time", 0)
	for _, n := range []int{0, 1, 2, 4, 5, 32} {
		faulty(t, put(town(), slices.Repeat(list{nil}, n), "matrix", "dist"), api.ErrSize, "matrix", "dist")
	}
	faulty(t, put(put(town(), gone{}, "matrix", "dist"), 1, "matrix", "time", 0, 0), api.ErrRange, "matrix", "time", 0, 0)
}

// TestListSizes: lists of as many as may be are tested with the fields; here is one more, whatever it is.
func TestListSizes(t *testing.T) {
	many := func(sample any, most int, path ...any) {
		t.Helper()
		for n := most + 1; n < most+5; n++ {
			for _, x := range []any{nil, 0, obj{}} {
				faulty(t, put(sample, slices.Repeat(list{x}, n), path...), api.ErrMany, path...)
			}
		}
		if most > 0 {
			faulty(t, put(sample, slices.Repeat(list{true}, most), path...), api.ErrType, append(slices.Clone(path), 0)...)
		}
		if most > 256 {
			faulty(t, put(sample, slices.Repeat(list{true}, most<<8), path...), api.ErrMany, path...)
		}
	}
	many(lake(), 256, "graph", "arcs")
	many(town(), 4, "vehicles")
	many(town(), 12, "jobs")
	many(town(), 10, "shipments")
	many(lake(), 11, "shipments")
	many(put(town(), list{}, "jobs"), 12, "shipments")
	many(put(town(), gone{}, "jobs"), 12, "shipments")
	many(town(), 2, "vehicles", 0, "breaks")
	many(town(), 62, "vehicles", 0, "skills")
	many(town(), 62, "jobs", 1, "skills")
	many(town(), 62, "shipments", 0, "skills")
	many(town(), 4, "vehicles", 0, "breaks", 1, "windows")
	many(town(), 4, "jobs", 0, "windows")
	many(town(), 4, "shipments", 0, "pickup", "windows")
	many(town(), 4, "shipments", 0, "delivery", "windows")
}

// TestOtherSizes: lists that must be of just so many values.
func TestOtherSizes(t *testing.T) {
	just := func(sample any, count int, path ...any) {
		t.Helper()
		for n := range count + 4 {
			want, at := api.ErrSize, path
			if n == count {
				want, at = api.ErrType, append(slices.Clone(path), 0)
			}
			if n > 0 || count > 0 {
				faulty(t, put(sample, slices.Repeat(list{nil}, n), path...), want, at...)
			}
		}
	}
	just(lake(), 4, "graph", "arcs", 0)
	just(lake(), 4, "graph", "arcs", 5)
	just(town(), 2, "vehicles", 1, "shift")
	for _, path := range [][]any{
		{"vehicles", 0, "capacity"}, {"vehicles", 1, "capacity"}, {"jobs", 0, "drop"}, {"jobs", 1, "drop"}, {"jobs", 0, "pick"}, {"jobs", 1, "pick"}, {"shipments", 0, "amount"},
	} {
		just(town(), 2, path...)
	}
	for _, path := range [][]any{{"vehicles", 0, "capacity"}, {"jobs", 0, "drop"}, {"jobs", 0, "pick"}, {"shipments", 0, "amount"}} {
		for dims := range 4 {
			just(put(lake(), dims, "dims"), dims, path...)
		}
		// Without dimensions amounts are lists without numbers.
		just(lake(), 0, path...)
		asks(t, put(lake(), list{}, path...), lakeProblem())
	}
	for _, path := range [][]any{
		{"vehicles", 0, "breaks", 0, "windows"}, {"jobs", 1, "windows"}, {"shipments", 0, "pickup", "windows"}, {"shipments", 0, "delivery", "windows"},
	} {
		just(town(), 2, append(path, 0)...)
		faulty(t, put(town(), list{}, path...), api.ErrSize, path...)
	}
}

// TestWindows: of each list of windows, and of a shift.
func TestWindows(t *testing.T) {
	shift := []any{"vehicles", 0, "shift"}
	lawful(t, put(town(), numbers(0, 0), shift...))
	lawful(t, put(town(), numbers(0, 1000000), shift...))
	faulty(t, put(town(), numbers(1, 0), shift...), api.ErrRange, shift...)
	faulty(t, put(town(), numbers(1000000, 999999), shift...), api.ErrRange, shift...)
	faulty(t, put(town(), numbers(-1, 5), shift...), api.ErrRange, "vehicles", 0, "shift", 0)
	faulty(t, put(town(), numbers(1000001, 5), shift...), api.ErrRange, "vehicles", 0, "shift", 0)
	faulty(t, put(town(), numbers(5, 1000001), shift...), api.ErrRange, "vehicles", 0, "shift", 1)
	faulty(t, put(town(), numbers(5, -1), shift...), api.ErrRange, "vehicles", 0, "shift", 1)
	for _, path := range [][]any{
		{"vehicles", 0, "breaks", 1, "windows"}, {"jobs", 0, "windows"}, {"shipments", 0, "pickup", "windows"}, {"shipments", 0, "delivery", "windows"},
	} {
		at := func(steps ...any) []any { return append(slices.Clone(path), steps...) }
		lawful(t, put(town(), pairs(0, 1000000), path...))
		lawful(t, put(town(), pairs(0, 0, 1, 1, 2, 2, 3, 3), path...))
		lawful(t, put(town(), pairs(0, 0, 999999, 999999, 1000000, 1000000), path...))
		faulty(t, put(town(), pairs(6, 5), path...), api.ErrRange, at(0)...)
		faulty(t, put(town(), pairs(1, 2, 4, 3), path...), api.ErrRange, at(1)...)
		faulty(t, put(town(), pairs(5, 9, 9, 12), path...), api.ErrRange, at(1)...)
		faulty(t, put(town(), pairs(5, 9, 10, 12, 1, 2), path...), api.ErrRange, at(2)...)
		faulty(t, put(town(), pairs(5, 9, 10, 12, 20, 30, 30, 31), path...), api.ErrRange, at(3)...)
		faulty(t, put(town(), pairs(5, 9, 5, 9), path...), api.ErrRange, at(1)...)
		faulty(t, put(town(), pairs(5, 9, 0, 4), path...), api.ErrRange, at(1)...)
		faulty(t, put(town(), pairs(-1, 9), path...), api.ErrRange, at(0, 0)...)
		faulty(t, put(town(), pairs(0, 1000001), path...), api.ErrRange, at(0, 1)...)
		// What is wrong with a window goes ahead of where it stands, though it stands behind.
		faulty(t, put(town(), pairs(5, 9, 5, 9, 3, 2), path...), api.ErrRange, at(2)...)
		faulty(t, put(town(), list{numbers(5, 9), numbers(5, 9), nil}, path...), api.ErrType, at(2)...)
		faulty(t, put(town(), list{numbers(5, 9), numbers(5, 9), numbers(1)}, path...), api.ErrSize, at(2)...)
		faulty(t, put(town(), pairs(5, 9, 5, 9, 20, 1000001), path...), api.ErrRange, at(2, 1)...)
		// Of a window its ends go ahead of their order.
		faulty(t, put(town(), list{list{7, nil}}, path...), api.ErrType, at(0, 1)...)
		faulty(t, put(town(), pairs(7, -1), path...), api.ErrRange, at(0, 1)...)
	}
}

// TestSkills: of each list of skills.
func TestSkills(t *testing.T) {
	for _, path := range [][]any{{"vehicles", 0, "skills"}, {"jobs", 1, "skills"}, {"shipments", 0, "skills"}} {
		at := func(i int) []any { return append(slices.Clone(path), i) }
		lawful(t, put(town(), list{}, path...))
		lawful(t, put(town(), numbers(61, 0), path...))
		lawful(t, put(town(), numbers(rand.New(rand.NewSource(1)).Perm(62)...), path...))
		faulty(t, put(town(), numbers(3, 3), path...), api.ErrTwice, at(1)...)
		faulty(t, put(town(), numbers(0, 61, 5, 61, 0), path...), api.ErrTwice, at(3)...)
		faulty(t, put(town(), numbers(slices.Repeat([]int{9}, 62)...), path...), api.ErrTwice, at(1)...)
		faulty(t, put(town(), numbers(append(rand.New(rand.NewSource(2)).Perm(61), 60)...), path...), api.ErrTwice, at(61)...)
		// All numbers are looked at ahead of those that stand twice.
		faulty(t, put(town(), numbers(3, 3, 62), path...), api.ErrRange, at(2)...)
		faulty(t, put(town(), list{3, 3, "3"}, path...), api.ErrType, at(2)...)
		faulty(t, put(town(), numbers(3, 3, -1), path...), api.ErrRange, at(2)...)
	}
}

// TestBoth: a graph and a matrix, whatever they are; dims goes ahead of them, all else comes behind.
func TestBoth(t *testing.T) {
	for _, x := range []any{nil, 0, "", list{}, obj{}, obj{{"x", 1}}} {
		for _, y := range []any{nil, false, obj{}, list{1}} {
			faulty(t, obj{{"graph", x}, {"matrix", y}}, api.ErrBoth, "matrix")
			faulty(t, obj{{"matrix", y}, {"graph", x}, {"vehicles", 1}, {"dims", 3}}, api.ErrBoth, "matrix")
			faulty(t, obj{{"matrix", y}, {"graph", x}, {"dims", 4}}, api.ErrRange, "dims")
			faulty(t, obj{{"matrix", y}, {"graph", x}, {"dims", nil}}, api.ErrType, "dims")
		}
	}
	faulty(t, obj{{"vehicles", 1}, {"jobs", 1}, {"shipments", 1}}, api.ErrMissing, "graph")
	faulty(t, obj{{"vehicles", 1}, {"graph", nil}}, api.ErrType, "graph")
	faulty(t, obj{{"vehicles", 1}, {"matrix", nil}}, api.ErrType, "matrix")
}

// TestFirstOfTwo: of any two values that are wrong the one that the chapter lists first is the fault, whichever stands first in the text.
func TestFirstOfTwo(t *testing.T) {
	for _, sample := range []obj{town(), lake()} {
		l := paths(sample)[1:]
		back := turned(sample)
		for i, first := range l {
			one := put(back, "", first...)
			for _, second := range l[i+1:] {
				// What stands within the first one is gone.
				if len(second) > len(first) && slices.Equal(first, second[:len(first)]) {
					continue
				}
				faulty(t, put(one, "", second...), api.ErrType, first...)
			}
		}
	}
}

// TestFirstThatLacks: what lacks is told at its own turn: behind what is wrong ahead of it.
func TestFirstThatLacks(t *testing.T) {
	for _, path := range [][]any{
		{"matrix", "time"}, {"matrix", "dist"}, {"vehicles"}, {"vehicles", 0, "start"}, {"vehicles", 1, "end"}, {"jobs", 1, "place"},
		{"shipments", 0, "pickup"}, {"shipments", 0, "pickup", "place"}, {"shipments", 0, "delivery"}, {"shipments", 0, "delivery", "place"},
	} {
		ahead := true
		for _, other := range paths(town())[1:] {
			switch {
			case slices.Equal(other, path):
				ahead = false
			case len(other) < len(path) && slices.Equal(other, path[:len(other)]), len(other) > len(path) && slices.Equal(other[:len(path)], path):
			case ahead:
				faulty(t, put(put(turned(town()), gone{}, path...), true, other...), api.ErrType, other...)
			default:
				faulty(t, put(put(turned(town()), gone{}, path...), true, other...), api.ErrMissing, path...)
			}
		}
	}
}
