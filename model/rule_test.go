package model

import (
	"math"
	"reflect"
	"slices"
	"sync"
	"testing"

	"haulier/api"
)

// roomy: a copy of a list with something in its spare room.
func roomy[T any](l []T, beyond T) []T {
	return append(slices.Clone(l), beyond, beyond, beyond)[:len(l)]
}

// whole: a copy of a list, spare room included.
func whole[T any](l []T) []T { return slices.Clone(l[:cap(l)]) }

// spread makes a copy of a problem, each list of which one of these functions makes of the old one.
type spread struct {
	numbers   func([]int) []int
	windows   func([]api.Window) []api.Window
	breaks    func([]api.Break) []api.Break
	vehicles  func([]api.Vehicle) []api.Vehicle
	jobs      func([]api.Job) []api.Job
	shipments func([]api.Shipment) []api.Shipment
}

// withRoom: each list gets spare room, in which something stands that may not be.
func withRoom() spread {
	return spread{
		func(l []int) []int { return roomy(l, -77) },
		func(l []api.Window) []api.Window { return roomy(l, api.Window{From: 78, To: -78}) },
		func(l []api.Break) []api.Break { return roomy(l, api.Break{Service: -79}) },
		func(l []api.Vehicle) []api.Vehicle { return roomy(l, api.Vehicle{Start: -80}) },
		func(l []api.Job) []api.Job { return roomy(l, api.Job{Priority: -81}) },
		func(l []api.Shipment) []api.Shipment { return roomy(l, api.Shipment{Priority: -82}) },
	}
}

// asWhole: each list with its spare room, to be held against what it was.
func asWhole() spread {
	return spread{whole[int], whole[api.Window], whole[api.Break], whole[api.Vehicle], whole[api.Job], whole[api.Shipment]}
}

// asEmpty: lists without elements become nil, or become empty ones.
func asEmpty(none bool) spread {
	return spread{empty[int](none), empty[api.Window](none), empty[api.Break](none), empty[api.Vehicle](none), empty[api.Job](none), empty[api.Shipment](none)}
}

func empty[T any](none bool) func([]T) []T {
	return func(l []T) []T {
		if len(l) > 0 {
			return slices.Clone(l)
		}
		if none {
			return nil
		}
		return make([]T, 0, 3)
	}
}

// problem: the copy.
func (s spread) problem(p api.Problem) api.Problem {
	p.Time.Cells, p.Dist.Cells = s.numbers(p.Time.Cells), s.numbers(p.Dist.Cells)
	p.Vehicles, p.Jobs, p.Shipments = s.vehicles(p.Vehicles), s.jobs(p.Jobs), s.shipments(p.Shipments)
	for i := range p.Vehicles {
		v := &p.Vehicles[i]
		v.Cap, v.Breaks = s.numbers(v.Cap), s.breaks(v.Breaks)
		for j := range v.Breaks {
			v.Breaks[j].Windows = s.windows(v.Breaks[j].Windows)
		}
	}
	for i := range p.Jobs {
		j := &p.Jobs[i]
		j.Stop.Windows, j.Drop, j.Pick = s.windows(j.Stop.Windows), s.numbers(j.Drop), s.numbers(j.Pick)
	}
	for i := range p.Shipments {
		h := &p.Shipments[i]
		h.Pickup.Windows, h.Delivery.Windows, h.Amount = s.windows(h.Pickup.Windows), s.windows(h.Delivery.Windows), s.numbers(h.Amount)
	}
	return p
}

// noProblems: what Check refuses, or what is made of nothing.
func noProblems() []api.Problem {
	const least, most = math.MinInt, math.MaxInt
	zeros := api.Problem{Vehicles: make([]api.Vehicle, 9), Jobs: make([]api.Job, 20), Shipments: make([]api.Shipment, 20)}
	l := []api.Problem{{}, {Dims: least}, {Dims: most}, zeros}
	for _, n := range []int{least, least + 1, -1 << 32, -32, -1, 0, 1, 2, 33, 1 << 16, 1 << 31, 1 << 32, 1<<32 + 1, 1 << 62, most - 1, most} {
		for _, cells := range [][]int{nil, {}, {0}, {0, 5, 5, 0}, make([]int, 1024), make([]int, 1500)} {
			m := api.Matrix{N: n, Cells: cells}
			l = append(l, api.Problem{Time: m, Dist: m}, api.Problem{Time: table(2, 10), Dist: m}, api.Problem{Time: m, Dist: table(2, 10), Jobs: make([]api.Job, 1)})
		}
	}
	for _, s := range spoilings() {
		p := sample(kind{4, 2, 2, 3, 2})
		s.spoil(&p)
		l = append(l, p)
	}
	p := sample(kind{3, 1, 4, 5, 5})
	for i := range p.Jobs {
		p.Jobs[i] = api.Job{Priority: []int{most, least, 0, -1, most}[i], Skills: math.MaxUint64}
		p.Shipments[i] = api.Shipment{Priority: []int{least, most, 0, -1, 1 << 62}[i]}
	}
	return append(l, p)
}

// handed: problems as the calls may be handed them, right and wrong ones.
func handed() []api.Problem {
	l := noProblems()
	for _, k := range kinds() {
		l = append(l, sample(k))
	}
	return l
}

// callAll: each call on a problem, at items around those that are there.
func callAll(p api.Problem) {
	Check(p)
	Tasks(p)
	items := append(around(len(p.Jobs)), around(len(p.Shipments))...)
	for _, i := range items {
		for _, task := range []api.Task{job(i), ship(i)} {
			There(p, task)
			Priority(p, task)
			Skills(p, task)
			Visits(task)
		}
		for _, kind := range append(strange(), api.AtJob, api.AtPickup, api.AtDelivery) {
			Of(api.Visit{Kind: kind, Item: i})
			Stop(p, api.Visit{Kind: kind, Item: i})
		}
	}
	for _, m := range matrices(&p) {
		for _, from := range around(m.N) {
			for _, to := range around(len(m.Cells)) {
				Cell(*m, from, to)
				Cell(*m, to, from)
			}
		}
	}
}

// told: all that the calls tell of a problem.
type told struct {
	e      api.Errno
	tasks  []api.Task
	stops  []api.Stop
	others []int
}

// tell: asks them.
func tell(p api.Problem) told {
	all := told{e: Check(p), tasks: append([]api.Task{}, Tasks(p)...)}
	for _, task := range all.tasks {
		all.others = append(all.others, Priority(p, task), int(Skills(p, task)))
		for _, v := range Visits(task) {
			s, _ := Stop(p, v)
			s.Windows = append([]api.Window{}, s.Windows...)
			all.stops = append(all.stops, s)
		}
	}
	for from := range 4 {
		for to := range 4 {
			all.others = append(all.others, Cell(p.Time, from, to), Cell(p.Dist, from, to))
		}
	}
	return all
}

// TestCallsEnd: no call panics, whatever it is handed.
func TestCallsEnd(t *testing.T) {
	for _, p := range handed() {
		callAll(p)
	}
}

// TestCellOfNoMatrix: numbers that say more places than there are cells: the cells that lack are none.
func TestCellOfNoMatrix(t *testing.T) {
	ends := []int{0, 1, 2, 3, 1 << 31, 1 << 32, 1<<32 + 1, 1 << 61, 1 << 62, math.MaxInt - 1, math.MaxInt}
	for _, n := range []int{5, 33, 1 << 16, 1 << 31, 1 << 32, 1<<32 + 1, 1 << 62, math.MaxInt - 1, math.MaxInt, -1, -2, math.MinInt, math.MinInt + 1} {
		for _, from := range ends {
			for _, to := range ends {
				cells(t, api.Matrix{N: n}, from, to, -1)
				if from > 0 || to > 3 {
					cells(t, api.Matrix{N: n, Cells: []int{7, 7, 7, 7}}, from, to, -1)
				}
			}
		}
	}
}

// TestArgumentsStay: neither a problem's lists nor their spare room is changed.
func TestArgumentsStay(t *testing.T) {
	for _, p := range handed() {
		p = withRoom().problem(p)
		before := asWhole().problem(p)
		callAll(p)
		if after := asWhole().problem(p); !reflect.DeepEqual(before, after) {
			t.Errorf("R6: %+v became %+v", before, after)
		}
	}
}

// TestSpareRoomIsNone: what stands behind a list's end isn't of it.
func TestSpareRoomIsNone(t *testing.T) {
	for _, p := range handed() {
		if want, got := tell(p), tell(withRoom().problem(p)); !reflect.DeepEqual(want, got) {
			t.Errorf("R6: %v, with spare room %v", want, got)
		}
	}
}

// TestNilAndEmpty: lists without elements mean the same.
func TestNilAndEmpty(t *testing.T) {
	for _, p := range handed() {
		if want, got := tell(asEmpty(true).problem(p)), tell(asEmpty(false).problem(p)); !reflect.DeepEqual(want, got) {
			t.Errorf("R5: %v of nil, %v of empty lists", want, got)
		}
	}
	m := table(2, 10)
	p := api.Problem{Time: m, Dist: m, Vehicles: []api.Vehicle{{Cap: []int{}, Breaks: []api.Break{}}}, Jobs: []api.Job{{Stop: api.Stop{Windows: spans(0, 0)}, Drop: []int{}}}}
	checks(t, "empty amounts and no break", p, api.OK)
	checks(t, "nil amounts and no break", asEmpty(true).problem(p), api.OK)
}

// TestZeroProblem: it has no task, no stop and no place.
func TestZeroProblem(t *testing.T) {
	var p api.Problem
	tells(t, p, nil)
	for _, i := range around(0) {
		asks(t, p, job(i), false, 0, 0)
		asks(t, p, ship(i), false, 0, 0)
		for _, kind := range append(strange(), api.AtJob, api.AtPickup, api.AtDelivery) {
			stops(t, p, api.Visit{Kind: kind, Item: i}, api.Stop{}, false)
		}
	}
}

// scribble: writes over a list and its spare room.
func scribble[T any](l []T, with T) {
	l = l[:cap(l)]
	for i := range l {
		l[i] = with
	}
}

// TestAnswersAreNew: lists that were answered are the caller's: written over, spare room too, they change neither the problem nor another answer.
func TestAnswersAreNew(t *testing.T) {
	for _, k := range kinds() {
		p := withRoom().problem(sample(k))
		before, want := asWhole().problem(p), tell(p)
		keptTasks := Tasks(p)
		for _, task := range Tasks(p) {
			keptVisits := Visits(task)
			again := slices.Clone(keptVisits)
			for _, v := range keptVisits {
				kept, _ := Stop(p, v)
				was := slices.Clone(kept.Windows)
				other, _ := Stop(p, v)
				scribble(other.Windows, api.Window{From: -5, To: -6})
				if !slices.Equal(kept.Windows, was) {
					t.Errorf("R6: Stop(%v): the windows are shared", v)
				}
				scribble(kept.Windows, api.Window{From: -7, To: -8})
			}
			scribble(Visits(task), api.Visit{Kind: -1, Item: -1})
			if !slices.Equal(keptVisits, again) {
				t.Errorf("R6: Visits(%v) are shared", task)
			}
		}
		scribble(Tasks(p), api.Task{Ship: true, Item: -9})
		if !slices.Equal(keptTasks, want.tasks) {
			t.Errorf("R6: Tasks: %v became %v", want.tasks, keptTasks)
		}
		if got := tell(p); !reflect.DeepEqual(want, got) {
			t.Errorf("R6: %v became %v", want, got)
		}
		if after := asWhole().problem(p); !reflect.DeepEqual(before, after) {
			t.Errorf("R6: %+v became %+v", before, after)
		}
	}
}

// TestProblemChanged: what was answered stays when the problem is written over, and the changed problem is asked anew.
func TestProblemChanged(t *testing.T) {
	p := ranked([]int{1, 5}, []int{5})
	tasks := Tasks(p)
	first, _ := Stop(p, api.Visit{Kind: api.AtJob})
	was := slices.Clone(first.Windows)
	for _, l := range windowLists(&p) {
		scribble(*l, api.Window{From: 3, To: 2})
	}
	p.Jobs[0].Priority = 6
	p.Time.Cells[1] = 77
	if !slices.Equal(tasks, []api.Task{job(1), ship(0), job(0)}) || !slices.Equal(first.Windows, was) {
		t.Errorf("R6: %v, %v", tasks, first)
	}
	tells(t, p, []api.Task{job(0), job(1), ship(0)})
	asks(t, p, job(0), true, 6, 3)
	cells(t, p.Time, 0, 1, 77)
	checks(t, "windows that were written over", p, api.ErrRange)
}

// TestNothingBesideFalse: beside false stands nothing, though another task has that number.
func TestNothingBesideFalse(t *testing.T) {
	p := sample(kind{3, 1, 2, 3, 1})
	for _, v := range []api.Visit{{Kind: api.AtPickup, Item: 1}, {Kind: api.AtDelivery, Item: 2}, {Kind: api.AtBreak}, {Kind: api.AtJob, Item: 3}, {Kind: api.AtStart}, {Kind: api.AtEnd}} {
		if s, is := Stop(p, v); is || !reflect.DeepEqual(s, api.Stop{}) {
			t.Errorf("R3: Stop(%v): %v, %v", v, s, is)
		}
	}
	for _, kind := range strange() {
		if task, is := Of(api.Visit{Kind: kind, Item: 7}); is || task != (api.Task{}) {
			t.Errorf("R3: Of(%d, 7): %v, %v", kind, task, is)
		}
	}
}

// TestSameAgain: what was asked before changes no answer.
func TestSameAgain(t *testing.T) {
	all := handed()
	var want []told
	for _, p := range all {
		want = append(want, tell(p))
	}
	for i := range all {
		i = len(all) - 1 - i
		callAll(all[i])
		if got := tell(all[i]); !reflect.DeepEqual(want[i], got) {
			t.Errorf("R8: %v, then %v", want[i], got)
		}
	}
}

// TestAllAtOnce: calls of several goroutines on the same problems don't touch each other.
func TestAllAtOnce(t *testing.T) {
	all := handed()
	var want []told
	for _, p := range all {
		want = append(want, tell(p))
	}
	var wait sync.WaitGroup
	for range 8 {
		wait.Go(func() {
			for i, p := range all {
				if got := tell(p); !reflect.DeepEqual(want[i], got) {
					t.Errorf("R8: %v, then %v", want[i], got)
				}
			}
		})
	}
	wait.Wait()
}
