package model

import (
	"fmt"
	"math/rand"
	"testing"

	"haulier/api"
)

// These functions say by the chapter's words, one by one, what Check must answer; they call no layer.

func inRange(n, least, most int) bool { return n >= least && n <= most }

func rightMatrix(m api.Matrix, n int) bool {
	right := m.N == n && len(m.Cells) == n*n
	for i, cell := range m.Cells {
		right = right && inRange(cell, -1, 32000000)
		if right && i%(n+1) == 0 {
			right = cell == 0
		}
	}
	return right
}

func rightWindows(l []api.Window) bool {
	right := inRange(len(l), 1, 4)
	for i, w := range l {
		right = right && w.From >= 0 && w.To <= 1000000 && w.From <= w.To
		if i > 0 {
			right = right && w.From > l[i-1].To
		}
	}
	return right
}

func rightAmounts(a []int, dims int) bool {
	right := len(a) == dims
	for _, n := range a {
		right = right && inRange(n, 0, 1000000)
	}
	return right
}

func rightSkills(set uint64) bool { return set < 1<<62 }

func rightStop(s api.Stop, n int) bool {
	return inRange(s.Place, 0, n-1) && inRange(s.Service, 0, 1000000) && rightWindows(s.Windows)
}

func rightVehicle(v api.Vehicle, n, dims int) bool {
	right := inRange(v.Start, 0, n-1) && inRange(v.End, 0, n-1) && rightAmounts(v.Cap, dims) && rightSkills(v.Skills)
	right = right && rightWindows([]api.Window{v.Shift}) && inRange(v.Fixed, 0, 1000000) && inRange(v.PerTime, 0, 1000000) && inRange(v.PerDist, 0, 1000000)
	right = right && inRange(v.MaxTasks, 0, 12) && len(v.Breaks) <= 2
	for _, b := range v.Breaks {
		right = right && rightWindows(b.Windows) && inRange(b.Service, 0, 1000000)
	}
	return right
}

func rightTasks(p api.Problem) bool {
	right := true
	for _, j := range p.Jobs {
		right = right && rightStop(j.Stop, p.Time.N) && rightAmounts(j.Drop, p.Dims) && rightAmounts(j.Pick, p.Dims) && rightSkills(j.Skills) && inRange(j.Priority, 0, 100)
	}
	for _, s := range p.Shipments {
		right = right && rightStop(s.Pickup, p.Time.N) && rightStop(s.Delivery, p.Time.N) && rightAmounts(s.Amount, p.Dims) && rightSkills(s.Skills) && inRange(s.Priority, 0, 100)
	}
	return right
}

func wanted(p api.Problem) api.Errno {
	if !inRange(p.Dims, 0, 3) || !inRange(p.Time.N, 1, 32) || !rightMatrix(p.Time, p.Time.N) || !rightMatrix(p.Dist, p.Time.N) {
		return api.ErrRange
	}
	if len(p.Vehicles) > 4 || len(p.Jobs)+len(p.Shipments) > 12 {
		return api.ErrMany
	}
	for _, v := range p.Vehicles {
		if !rightVehicle(v, p.Time.N, p.Dims) {
			return api.ErrRange
		}
	}
	if !rightTasks(p) {
		return api.ErrRange
	}
	return api.OK
}

// spoiling is something that makes a problem none, and the step of the chapter at which Check sees it.
type spoiling struct {
	name  string
	step  int
	spoil func(p *api.Problem)
}

// spoilings: of each step some, for problems with a vehicle, a job and a shipment at least.
func spoilings() []spoiling {
	return []spoiling{
		{"Dims above", 0, func(p *api.Problem) { p.Dims = 4 }},
		{"Dims below", 0, func(p *api.Problem) { p.Dims = -1 }},
		{"no place", 0, func(p *api.Problem) { p.Time.N = 0 }},
		{"33 places", 0, func(p *api.Problem) { p.Time, p.Dist = table(33, 1), table(33, 1) }},
		{"Dist of other places", 0, func(p *api.Problem) { p.Dist = table(p.Time.N+1, 1) }},
		{"a time too many", 0, func(p *api.Problem) { p.Time.Cells = append(p.Time.Cells, 0) }},
		{"a distance too few", 0, func(p *api.Problem) { p.Dist.Cells = p.Dist.Cells[1:] }},
		{"a time below", 0, func(p *api.Problem) { p.Time.Cells[1] = -2 }},
		{"a distance to itself", 0, func(p *api.Problem) { p.Dist.Cells[0] = 1 }},
		{"5 vehicles", 1, func(p *api.Problem) { p.Vehicles = append(p.Vehicles, sample(kind{2, p.Dims, 4, 0, 0}).Vehicles...) }},
		{"13 jobs", 1, func(p *api.Problem) { p.Jobs = append(p.Jobs, sample(kind{2, p.Dims, 0, 12, 0}).Jobs...) }},
		{"13 shipments", 1, func(p *api.Problem) {
			p.Shipments = append(p.Shipments, sample(kind{2, p.Dims, 0, 0, 12}).Shipments...)
		}},
		{"5 vehicles that are none", 1, func(p *api.Problem) { p.Vehicles = make([]api.Vehicle, 5) }},
		{"13 jobs that are none", 1, func(p *api.Problem) { p.Jobs = make([]api.Job, 13) }},
		{"a vehicle's amounts", 2, func(p *api.Problem) { p.Vehicles[0].Cap = make([]int, 7) }},
		{"a vehicle's start", 2, func(p *api.Problem) { p.Vehicles[0].Start = -1 }},
		{"3 breaks", 2, func(p *api.Problem) { p.Vehicles[0].Breaks = make([]api.Break, 3) }},
		{"5 windows", 2, func(p *api.Problem) { p.Jobs[0].Stop.Windows = windows(5, 1) }},
		{"a job's priority", 2, func(p *api.Problem) { p.Jobs[0].Priority = 101 }},
		{"a shipment's skills", 2, func(p *api.Problem) { p.Shipments[0].Skills = 1 << 62 }},
		{"a shipment's delivery", 2, func(p *api.Problem) { p.Shipments[0].Delivery.Windows = nil }},
	}
}

// TestCheckOrder: of two and three things that are wrong the step that is named first says the error: ErrRange of dimensions and matrices, then ErrMany, then ErrRange of the rest.
func TestCheckOrder(t *testing.T) {
	steps := []api.Errno{api.ErrRange, api.ErrMany, api.ErrRange}
	all := spoilings()
	for _, a := range all {
		for _, b := range all {
			for _, c := range all {
				p := sample(kind{4, 2, 1, 1, 1})
				for _, s := range []spoiling{a, b, c} {
					if s.step == 2 {
						s.spoil(&p)
					}
				}
				for _, s := range []spoiling{a, b, c} {
					if s.step != 2 {
						s.spoil(&p)
					}
				}
				checks(t, fmt.Sprintf("%s, %s, %s", a.name, b.name, c.name), p, steps[min(a.step, b.step, c.step)])
			}
		}
	}
}

// TestCheckOrderAtBounds: 4 vehicles and 12 tasks are not too many, so the wrong one among them is told.
func TestCheckOrderAtBounds(t *testing.T) {
	for _, k := range []kind{{3, 1, 4, 12, 0}, {3, 1, 4, 0, 12}, {3, 1, 4, 6, 6}} {
		p := sample(k)
		for _, f := range numbers(&p) {
			was := *f.at
			*f.at = f.most + 1
			checks(t, f.name, p, api.ErrRange)
			q := p
			q.Vehicles = append(q.Vehicles[:4:4], sample(k).Vehicles[0])
			checks(t, f.name+", and 5 vehicles", q, api.ErrMany)
			q = p
			q.Jobs = append(q.Jobs[:k.jobs:k.jobs], sample(kind{3, 1, 0, 1, 0}).Jobs[0])
			checks(t, f.name+", and 13 tasks", q, api.ErrMany)
			q = p
			q.Shipments = append(q.Shipments[:k.shipments:k.shipments], sample(kind{3, 1, 0, 0, 1}).Shipments[0])
			checks(t, f.name+", and 13 tasks", q, api.ErrMany)
			q.Dims = 4
			checks(t, f.name+", 13 tasks, 4 dimensions", q, api.ErrRange)
			*f.at = was
		}
	}
}

// TestCheckDrawn: drawn problems, of some of which numbers were moved, held against the chapter's words, the same in each run.
func TestCheckDrawn(t *testing.T) {
	r := rand.New(rand.NewSource(12))
	seen := map[api.Errno]int{}
	for range 20000 {
		k := kind{1 + r.Intn(6), r.Intn(4), r.Intn(6), r.Intn(8), r.Intn(8)}
		p := sample(k)
		if r.Intn(20) == 0 {
			p.Dims = r.Intn(6) - 1
		}
		for _, m := range matrices(&p) {
			if r.Intn(10) == 0 {
				m.Cells[r.Intn(len(m.Cells))] = r.Intn(5) - 2
			}
		}
		if l := numbers(&p); len(l) > 0 {
			for range r.Intn(3) {
				f := l[r.Intn(len(l))]
				*f.at = []int{f.least - 1, f.least, f.most, f.most + 1, *f.at + r.Intn(300) - 150}[r.Intn(5)]
			}
		}
		if l := windowLists(&p); len(l) > 0 && r.Intn(4) == 0 {
			*l[r.Intn(len(l))] = windows(r.Intn(6), r.Intn(50)-2)
		}
		if l := amountLists(&p); len(l) > 0 && r.Intn(10) == 0 {
			*l[r.Intn(len(l))] = make([]int, r.Intn(5))
		}
		want := wanted(p)
		seen[want]++
		checks(t, fmt.Sprintf("%+v", p), p, want)
		if t.Failed() {
			return
		}
	}
	for _, e := range []api.Errno{api.OK, api.ErrRange, api.ErrMany} {
		if seen[e] < 1000 {
			t.Errorf("only %d problems of the answer %d were drawn", seen[e], e)
		}
	}
}
