package model

import (
	"fmt"
	"math"
	"math/rand"
	"slices"
	"testing"

	"haulier/api"
)

// job, ship: the task with this number.
func job(i int) api.Task  { return api.Task{Item: i} }
func ship(i int) api.Task { return api.Task{Ship: true, Item: i} }

// ranked: a problem whose jobs and shipments have these priorities.
func ranked(jobs, shipments []int) api.Problem {
	p := sample(kind{4, 1, 1, len(jobs), len(shipments)})
	for i, priority := range jobs {
		p.Jobs[i].Priority = priority
	}
	for i, priority := range shipments {
		p.Shipments[i].Priority = priority
	}
	return p
}

// falling: the tasks that Tasks must answer: of each priority, from the greatest down, the jobs, then the shipments.
func falling(jobs, shipments []int) []api.Task {
	var tasks []api.Task
	for priority := 100; priority >= 0; priority-- {
		for i := range jobs {
			if jobs[i] == priority {
				tasks = append(tasks, job(i))
			}
		}
		for i := range shipments {
			if shipments[i] == priority {
				tasks = append(tasks, ship(i))
			}
		}
	}
	return tasks
}

// tells: does Tasks answer these?
func tells(t *testing.T, p api.Problem, want []api.Task) {
	t.Helper()
	if tasks := Tasks(p); !slices.Equal(tasks, want) {
		t.Errorf("P12.2: Tasks: %v, want %v", tasks, want)
	}
}

func TestTasksExample(t *testing.T) {
	tells(t, ranked([]int{1, 5}, []int{5}), []api.Task{job(1), ship(0), job(0)})
}

// TestTasksOfOneSort: jobs alone, shipments alone, none, and one priority for all.
func TestTasksOfOneSort(t *testing.T) {
	tells(t, ranked(nil, nil), nil)
	tells(t, api.Problem{}, nil)
	tells(t, ranked([]int{0}, nil), []api.Task{job(0)})
	tells(t, ranked(nil, []int{0}), []api.Task{ship(0)})
	tells(t, ranked([]int{2, 9, 2, 9, 100, 0}, nil), []api.Task{job(4), job(1), job(3), job(0), job(2), job(5)})
	tells(t, ranked(nil, []int{2, 9, 2, 9, 100, 0}), []api.Task{ship(4), ship(1), ship(3), ship(0), ship(2), ship(5)})
	tells(t, ranked([]int{7, 7, 7}, []int{7, 7}), []api.Task{job(0), job(1), job(2), ship(0), ship(1)})
	tells(t, ranked([]int{0, 0}, []int{100, 1}), []api.Task{ship(0), ship(1), job(0), job(1)})
	for jobs := range 13 {
		for shipments := range 13 - jobs {
			for _, priority := range []int{0, 50, 100} {
				same := slices.Repeat([]int{priority}, 12)
				tells(t, ranked(same[:jobs], same[:shipments]), falling(same[:jobs], same[:shipments]))
			}
		}
	}
}

// TestTasksAllSmall: all priorities of four numbers, of up to three jobs and three shipments.
func TestTasksAllSmall(t *testing.T) {
	few := []int{0, 1, 5, 100}
	for jobs := range 4 {
		for shipments := range 4 {
			all := make([]int, jobs+shipments)
			for code := range 1 << (2 * len(all)) {
				for i := range all {
					all[i] = few[code>>(2*i)&3]
				}
				tells(t, ranked(all[:jobs], all[jobs:]), falling(all[:jobs], all[jobs:]))
			}
		}
	}
}

// TestTasksDrawn: twelve tasks of priorities that were drawn, of a few and of all numbers, the same in each run.
func TestTasksDrawn(t *testing.T) {
	r := rand.New(rand.NewSource(12))
	for range 5000 {
		jobs := r.Intn(13)
		all := make([]int, 12)
		most := []int{2, 4, 101}[r.Intn(3)]
		for i := range all {
			all[i] = r.Intn(most)
		}
		tells(t, ranked(all[:jobs], all[jobs:]), falling(all[:jobs], all[jobs:]))
	}
}

// around: numbers of items that are there and that are not, of so many.
func around(count int) []int {
	return []int{math.MinInt, math.MinInt + 1, -1 << 32, -count - 1, -count, -2, -1, 0, 1, count / 2, count - 1, count, count + 1, 2*count + 3, 12, 1 << 32, 1<<32 + 1, 1 << 62, math.MaxInt - 1, math.MaxInt}
}

// TestTaskThere: There, Priority and Skills of each task that is there, and of such as are not.
func TestTaskThere(t *testing.T) {
	for _, k := range kinds() {
		p := sample(k)
		for _, i := range around(k.jobs) {
			want, priority, skills := i >= 0 && i < k.jobs, 0, uint64(0)
			if want {
				priority, skills = p.Jobs[i].Priority, p.Jobs[i].Skills
			}
			asks(t, p, job(i), want, priority, skills)
		}
		for _, i := range around(k.shipments) {
			want, priority, skills := i >= 0 && i < k.shipments, 0, uint64(0)
			if want {
				priority, skills = p.Shipments[i].Priority, p.Shipments[i].Skills
			}
			asks(t, p, ship(i), want, priority, skills)
		}
	}
}

// asks: do There, Priority and Skills answer this?
func asks(t *testing.T, p api.Problem, task api.Task, is bool, priority int, skills uint64) {
	t.Helper()
	if There(p, task) != is || Priority(p, task) != priority || Skills(p, task) != skills {
		t.Errorf("P12.2: %v: There %v, Priority %d, Skills %x, want %v, %d, %x", task, There(p, task), Priority(p, task), Skills(p, task), is, priority, skills)
	}
}

// TestTaskOwnNumbers: jobs and shipments with the same number are two tasks.
func TestTaskOwnNumbers(t *testing.T) {
	p := ranked([]int{100, 0, 33}, []int{7})
	p.Jobs[0].Skills, p.Jobs[1].Skills, p.Shipments[0].Skills = 1<<61, 0, 1<<62-1
	asks(t, p, job(0), true, 100, 1<<61)
	asks(t, p, job(1), true, 0, 0)
	asks(t, p, ship(0), true, 7, 1<<62-1)
	asks(t, p, ship(1), false, 0, 0)
	asks(t, p, ship(2), false, 0, 0)
	asks(t, p, job(3), false, 0, 0)
	asks(t, ranked(nil, []int{7}), job(0), false, 0, 0)
	asks(t, ranked([]int{7}, nil), ship(0), false, 0, 0)
}

// TestVisits: one visit of a job, two of a shipment, whatever its number.
func TestVisits(t *testing.T) {
	if l := Visits(ship(2)); !slices.Equal(l, []api.Visit{{Kind: api.AtPickup, Item: 2}, {Kind: api.AtDelivery, Item: 2}}) {
		t.Errorf("P12.2: Visits of shipment 2: %v", l)
	}
	for _, i := range around(12) {
		if l := Visits(job(i)); !slices.Equal(l, []api.Visit{{Kind: 1, Item: i}}) {
			t.Errorf("P12.2: Visits of job %d: %v", i, l)
		}
		if l := Visits(ship(i)); !slices.Equal(l, []api.Visit{{Kind: 2, Item: i}, {Kind: 3, Item: i}}) {
			t.Errorf("P12.2: Visits of shipment %d: %v", i, l)
		}
	}
}

// strange: kinds of visits that aren't a task's, and that are none at all.
func strange() []api.VisitKind {
	return []api.VisitKind{api.AtBreak, api.AtStart, api.AtEnd, 0, -1, -2, -3, 7, 8, 256 + 1, 1<<32 + 1, 1<<32 + 2, 1<<32 + 3, math.MinInt, math.MinInt + 1, math.MaxInt}
}

// TestOf: the task of a visit of each kind.
func TestOf(t *testing.T) {
	if task, is := Of(api.Visit{Kind: api.AtBreak}); is || task != (api.Task{}) {
		t.Errorf("P12.2: Of(break 0): %v, %v", task, is)
	}
	for _, i := range around(12) {
		for kind, want := range map[api.VisitKind]api.Task{1: job(i), 2: ship(i), 3: ship(i)} {
			if task, is := Of(api.Visit{Kind: kind, Item: i}); !is || task != want {
				t.Errorf("P12.2: Of(%d, %d): %v, %v", kind, i, task, is)
			}
		}
		for _, kind := range strange() {
			if task, is := Of(api.Visit{Kind: kind, Item: i}); is || task != (api.Task{}) {
				t.Errorf("P12.2: Of(%d, %d): %v, %v", kind, i, task, is)
			}
		}
		for _, task := range []api.Task{job(i), ship(i)} {
			for _, v := range Visits(task) {
				if again, is := Of(v); !is || again != task {
					t.Errorf("P12.2: Of(%v): %v, %v, want %v", v, again, is, task)
				}
			}
		}
	}
}

// stops: does Stop answer this?
func stops(t *testing.T, p api.Problem, v api.Visit, want api.Stop, is bool) {
	t.Helper()
	s, ok := Stop(p, v)
	if ok != is || s.Place != want.Place || s.Service != want.Service || !slices.Equal(s.Windows, want.Windows) {
		t.Errorf("P12.2: Stop(%v): %v, %v, want %v, %v", v, s, ok, want, is)
	}
}

// TestStop: of each visit, of tasks that are there and that are not, and of kinds that have none.
func TestStop(t *testing.T) {
	for _, k := range kinds() {
		p := sample(k)
		for i := range k.jobs {
			stops(t, p, api.Visit{Kind: api.AtJob, Item: i}, p.Jobs[i].Stop, true)
		}
		for i := range k.shipments {
			stops(t, p, api.Visit{Kind: api.AtPickup, Item: i}, p.Shipments[i].Pickup, true)
			stops(t, p, api.Visit{Kind: api.AtDelivery, Item: i}, p.Shipments[i].Delivery, true)
		}
		for _, i := range append(around(k.jobs), around(k.shipments)...) {
			if i < 0 || i >= k.jobs {
				stops(t, p, api.Visit{Kind: api.AtJob, Item: i}, api.Stop{}, false)
			}
			if i < 0 || i >= k.shipments {
				stops(t, p, api.Visit{Kind: api.AtPickup, Item: i}, api.Stop{}, false)
				stops(t, p, api.Visit{Kind: api.AtDelivery, Item: i}, api.Stop{}, false)
			}
			for _, kind := range strange() {
				stops(t, p, api.Visit{Kind: kind, Item: i}, api.Stop{}, false)
			}
		}
	}
}

// TestStopOfZeros: a stop whose numbers are all 0 is one.
func TestStopOfZeros(t *testing.T) {
	p := sample(kind{2, 0, 0, 1, 1})
	p.Jobs[0].Stop = api.Stop{Windows: spans(0, 0)}
	p.Shipments[0].Pickup, p.Shipments[0].Delivery = api.Stop{Windows: spans(0, 0)}, api.Stop{Windows: spans(0, 0, 1, 1)}
	stops(t, p, api.Visit{Kind: api.AtJob}, api.Stop{Windows: spans(0, 0)}, true)
	stops(t, p, api.Visit{Kind: api.AtPickup}, api.Stop{Windows: spans(0, 0)}, true)
	stops(t, p, api.Visit{Kind: api.AtDelivery}, api.Stop{Windows: spans(0, 0, 1, 1)}, true)
}

// cells: does Cell answer this?
func cells(t *testing.T, m api.Matrix, from, to, want int) {
	t.Helper()
	if cell := Cell(m, from, to); cell != want {
		t.Errorf("P12.2: Cell of %d places, (%d, %d): %d, want %d", m.N, from, to, cell, want)
	}
}

func TestCellExample(t *testing.T) {
	m := api.Matrix{N: 2, Cells: []int{0, 10, 20, 0}}
	cells(t, m, 0, 2, -1)
	cells(t, m, 0, 1, 10)
	cells(t, m, 1, 0, 20)
	cells(t, m, 0, 0, 0)
	cells(t, m, 1, 1, 0)
}

// TestCell: each cell of matrices of all sizes, and such as lie outside, at the ends of int too.
func TestCell(t *testing.T) {
	for n := 1; n <= 32; n++ {
		for _, m := range []api.Matrix{table(n, 10), table(n, 31990000)} {
			for from := range n {
				for to := range n {
					cells(t, m, from, to, m.Cells[from*n+to])
				}
			}
			for _, a := range around(n) {
				for _, b := range around(n) {
					if a < 0 || a >= n || b < 0 || b >= n {
						cells(t, m, a, b, -1)
					}
				}
			}
		}
	}
}

// TestCellOutside: a place outside is not to be found in another row, though there is a cell at that number.
func TestCellOutside(t *testing.T) {
	m := api.Matrix{N: 3, Cells: []int{0, 1, 2, 3, 0, 5, 6, 7, 0}}
	for _, c := range [][2]int{{0, 3}, {0, 8}, {1, -1}, {1, 3}, {2, -1}, {2, -6}, {2, 3}, {3, 0}, {3, -1}, {-1, 3}, {-1, 8}, {0, -1}, {math.MinInt, 0}, {0, math.MinInt}, {math.MaxInt, math.MaxInt}, {1 << 62, 0}, {1<<62 + 1, 1}} {
		cells(t, m, c[0], c[1], -1)
	}
}

// TestCellOfNoPlaces: no place is one of an empty matrix.
func TestCellOfNoPlaces(t *testing.T) {
	for _, from := range around(1) {
		for _, to := range around(1) {
			cells(t, api.Matrix{}, from, to, -1)
		}
	}
}

// TestTasksAreThere: what Tasks tells is there, and each visit of it has a stop and leads back to it.
func TestTasksAreThere(t *testing.T) {
	for _, k := range kinds() {
		p := sample(k)
		for _, task := range Tasks(p) {
			if !There(p, task) {
				t.Errorf("P12.2: %v isn't there", task)
			}
			for _, v := range Visits(task) {
				if _, is := Stop(p, v); !is {
					t.Errorf("P12.2: %v has no stop", v)
				}
			}
		}
		if n := len(Tasks(p)); n != k.jobs+k.shipments {
			t.Errorf("P12.2: %s: %d tasks", fmt.Sprint(k), n)
		}
	}
}
