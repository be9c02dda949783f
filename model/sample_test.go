package model

import (
	"fmt"

	"haulier/api"
)

// spans: windows from pairs of numbers.
func spans(ends ...int) []api.Window {
	var l []api.Window
	for i := 0; i+1 < len(ends); i += 2 {
		l = append(l, api.Window{From: ends[i], To: ends[i+1]})
	}
	return l
}

// windows: n of them, the first one from this time on.
func windows(n, from int) []api.Window {
	var l []api.Window
	for i := range n {
		l = append(l, api.Window{From: from + 100*i, To: from + 100*i + 50})
	}
	return l
}

// table: a lawful matrix of n places, all of its numbers but the 0s and the -1s of their own.
func table(n, from int) api.Matrix {
	m := api.Matrix{N: n, Cells: make([]int, n*n)}
	for i := range n {
		for j := range n {
			m.Cells[i*n+j] = from + i*n + j
			if (i*n+j)%7 == 5 {
				m.Cells[i*n+j] = -1
			}
			if i == j {
				m.Cells[i*n+j] = 0
			}
		}
	}
	return m
}

// amounts: as many numbers as there are dimensions.
func amounts(dims, from int) []int {
	var a []int
	for i := range dims {
		a = append(a, from+i)
	}
	return a
}

// kind says how great a problem is.
type kind struct{ n, dims, vehicles, jobs, shipments int }

// sample: a problem of this kind, no number of which is at a bound, if there are three places or more. Vehicles have none up to two breaks, lists of windows have one up to four.
func sample(k kind) api.Problem {
	p := api.Problem{Dims: k.dims, Time: table(k.n, 10), Dist: table(k.n, 5000)}
	for i := range k.vehicles {
		v := api.Vehicle{
			Start: (1 + i) % k.n, End: (2 + i) % k.n, Cap: amounts(k.dims, 70+10*i), Skills: 5 << i,
			Shift: api.Window{From: 20 + i, To: 9000 + i}, Fixed: 30 + i, PerTime: 40 + i, PerDist: 50 + i, MaxTasks: 3 + i,
		}
		for j := range (2 + i) % 3 {
			v.Breaks = append(v.Breaks, api.Break{Windows: windows(1+(i+j)%4, 60+j), Service: 7 + j})
		}
		p.Vehicles = append(p.Vehicles, v)
	}
	for i := range k.jobs {
		s := api.Stop{Place: (1 + i) % k.n, Service: 11 + i, Windows: windows(1+i%4, 80+i)}
		p.Jobs = append(p.Jobs, api.Job{Stop: s, Drop: amounts(k.dims, 200+10*i), Pick: amounts(k.dims, 400+10*i), Skills: 3 << i, Priority: 10 + 5*i%17})
	}
	for i := range k.shipments {
		from := api.Stop{Place: (2 + i) % k.n, Service: 31 + i, Windows: windows(1+(i+2)%4, 90+i)}
		to := api.Stop{Place: (3 + i) % k.n, Service: 51 + i, Windows: windows(1+(i+3)%4, 95+i)}
		p.Shipments = append(p.Shipments, api.Shipment{Pickup: from, Delivery: to, Amount: amounts(k.dims, 600+10*i), Skills: 9 << i, Priority: 10 + 7*i%17})
	}
	return p
}

// kinds: of problems, the least and the greatest ones among them.
func kinds() []kind {
	return []kind{
		{1, 0, 0, 0, 0}, {1, 0, 1, 1, 1}, {2, 1, 1, 2, 0}, {3, 2, 2, 3, 2}, {4, 3, 4, 4, 4}, {5, 0, 3, 0, 5}, {6, 1, 0, 6, 6},
		{32, 3, 4, 12, 0}, {32, 3, 4, 0, 12}, {31, 2, 4, 7, 5}, {8, 3, 4, 0, 0}, {3, 0, 1, 1, 0},
	}
}

// field is a number of a problem, and from where to where it may be.
type field struct {
	name        string
	at          *int
	least, most int
}

// numbers: all of a problem's numbers but Dims, N and the matrices' cells.
func numbers(p *api.Problem) []field {
	var l []field
	for i := range p.Vehicles {
		l = append(l, vehicleNumbers(fmt.Sprintf("vehicle %d: ", i), &p.Vehicles[i], p.Time.N)...)
	}
	for i := range p.Jobs {
		name, j := fmt.Sprintf("job %d: ", i), &p.Jobs[i]
		l = append(l, stopNumbers(name, &j.Stop, p.Time.N)...)
		l = append(l, amountNumbers(name+"Drop", j.Drop)...)
		l = append(l, amountNumbers(name+"Pick", j.Pick)...)
		l = append(l, field{name + "Priority", &j.Priority, 0, 100})
	}
	for i := range p.Shipments {
		name, s := fmt.Sprintf("shipment %d: ", i), &p.Shipments[i]
		l = append(l, stopNumbers(name+"Pickup: ", &s.Pickup, p.Time.N)...)
		l = append(l, stopNumbers(name+"Delivery: ", &s.Delivery, p.Time.N)...)
		l = append(l, amountNumbers(name+"Amount", s.Amount)...)
		l = append(l, field{name + "Priority", &s.Priority, 0, 100})
	}
	return l
}

// vehicleNumbers: those of a vehicle and its breaks.
func vehicleNumbers(name string, v *api.Vehicle, n int) []field {
	l := []field{
		{name + "Start", &v.Start, 0, n - 1}, {name + "End", &v.End, 0, n - 1},
		{name + "Shift.From", &v.Shift.From, 0, v.Shift.To}, {name + "Shift.To", &v.Shift.To, v.Shift.From, 1000000},
		{name + "Fixed", &v.Fixed, 0, 1000000}, {name + "PerTime", &v.PerTime, 0, 1000000}, {name + "PerDist", &v.PerDist, 0, 1000000},
		{name + "MaxTasks", &v.MaxTasks, 0, 12},
	}
	l = append(l, amountNumbers(name+"Cap", v.Cap)...)
	for i := range v.Breaks {
		rest := fmt.Sprintf("%sbreak %d: ", name, i)
		l = append(l, field{rest + "Service", &v.Breaks[i].Service, 0, 1000000})
		l = append(l, windowNumbers(rest, v.Breaks[i].Windows)...)
	}
	return l
}

// stopNumbers: those of a stop.
func stopNumbers(name string, s *api.Stop, n int) []field {
	l := []field{{name + "Place", &s.Place, 0, n - 1}, {name + "Service", &s.Service, 0, 1000000}}
	return append(l, windowNumbers(name, s.Windows)...)
}

// windowNumbers: those of windows, each from behind the one ahead up to the one behind.
func windowNumbers(name string, l []api.Window) []field {
	var fields []field
	for i := range l {
		least, most := 0, 1000000
		if i > 0 {
			least = l[i-1].To + 1
		}
		if i+1 < len(l) {
			most = l[i+1].From - 1
		}
		window := fmt.Sprintf("%swindow %d: ", name, i)
		fields = append(fields, field{window + "From", &l[i].From, least, l[i].To}, field{window + "To", &l[i].To, l[i].From, most})
	}
	return fields
}

// amountNumbers: those of amounts.
func amountNumbers(name string, a []int) []field {
	var fields []field
	for i := range a {
		fields = append(fields, field{fmt.Sprintf("%s %d", name, i), &a[i], 0, 1000000})
	}
	return fields
}

// amountLists: all of a problem's lists of amounts.
func amountLists(p *api.Problem) []*[]int {
	var l []*[]int
	for i := range p.Vehicles {
		l = append(l, &p.Vehicles[i].Cap)
	}
	for i := range p.Jobs {
		l = append(l, &p.Jobs[i].Drop, &p.Jobs[i].Pick)
	}
	for i := range p.Shipments {
		l = append(l, &p.Shipments[i].Amount)
	}
	return l
}

// windowLists: all of a problem's lists of windows.
func windowLists(p *api.Problem) []*[]api.Window {
	var l []*[]api.Window
	for i := range p.Vehicles {
		for j := range p.Vehicles[i].Breaks {
			l = append(l, &p.Vehicles[i].Breaks[j].Windows)
		}
	}
	for i := range p.Jobs {
		l = append(l, &p.Jobs[i].Stop.Windows)
	}
	for i := range p.Shipments {
		l = append(l, &p.Shipments[i].Pickup.Windows, &p.Shipments[i].Delivery.Windows)
	}
	return l
}

// skillSets: all of a problem's sets of skills.
func skillSets(p *api.Problem) []*uint64 {
	var l []*uint64
	for i := range p.Vehicles {
		l = append(l, &p.Vehicles[i].Skills)
	}
	for i := range p.Jobs {
		l = append(l, &p.Jobs[i].Skills)
	}
	for i := range p.Shipments {
		l = append(l, &p.Shipments[i].Skills)
	}
	return l
}
