package exact_test

import (
	"testing"

	"haulier/api"
	"haulier/exact"
)

// sized: a problem of so many vehicles, jobs and shipments.
func sized(vehicles, jobs, ships int) api.Problem {
	p := village(make([]int, jobs)...)
	p.Vehicles = cars(vehicles)
	for range ships {
		p.Shipments = append(p.Shipments, api.Shipment{Pickup: stop(1), Delivery: stop(2), Priority: 1})
	}
	return p
}

// TestSmall: of all problems by how many vehicles, jobs and shipments they have; Best answers just those that are small.
func TestSmall(t *testing.T) {
	for vehicles := range api.MaxVehicles + 1 {
		for jobs := range api.MaxTasks + 1 {
			for ships := range api.MaxTasks - jobs + 1 {
				p := sized(vehicles, jobs, ships)
				lawful(t, p)
				want := vehicles <= 1 && jobs+ships+ships <= 8
				if got := exact.Small(p); got != want {
					t.Errorf("P19.1: %d vehicles, %d jobs, %d shipments: %v", vehicles, jobs, ships, got)
				}
				s, got := exact.Best(p)
				if got != want || !got && s.Routes != nil {
					t.Errorf("P19.2: %d vehicles, %d jobs, %d shipments: %v, %v", vehicles, jobs, ships, s, got)
				}
			}
		}
	}
}

// TestSmallCountsAlone: what else a problem has doesn't make it small or great.
func TestSmallCountsAlone(t *testing.T) {
	p := town()
	lawful(t, p)
	if !exact.Small(p) {
		t.Error("P19.1: seven visits")
	}
	p.Jobs = append(p.Jobs, p.Jobs[0])
	if !exact.Small(p) {
		t.Error("P19.1: eight visits")
	}
	p.Vehicles[0].MaxTasks, p.Vehicles[0].Skills = 0, 0
	if !exact.Small(p) {
		t.Error("P19.1: a vehicle that takes nothing")
	}
	p.Jobs = append(p.Jobs, p.Jobs[0])
	if exact.Small(p) {
		t.Error("P19.1: nine visits, though the vehicle takes none")
	}
}

// TestBestOfNone: of what is no problem there is none, whatever is wrong with it.
func TestBestOfNone(t *testing.T) {
	none := func(what string, change func(p *api.Problem)) {
		p := town()
		change(&p)
		if s, ok := exact.Best(p); ok || s.Routes != nil {
			t.Errorf("P19.2: %s: %v, %v", what, s, ok)
		}
	}
	none("dimensions", func(p *api.Problem) { p.Dims = 4 })
	none("no places", func(p *api.Problem) { *p = api.Problem{} })
	none("a matrix", func(p *api.Problem) { p.Time.Cells = p.Time.Cells[:15] })
	none("another matrix", func(p *api.Problem) { p.Dist.Cells[5] = 1 })
	none("a place", func(p *api.Problem) { p.Vehicles[0].End = 4 })
	none("a capacity", func(p *api.Problem) { p.Vehicles[0].Cap = []int{1} })
	none("skills", func(p *api.Problem) { p.Vehicles[0].Skills = 1 << 62 })
	none("a shift", func(p *api.Problem) { p.Vehicles[0].Shift.To = 19 })
	none("a cost", func(p *api.Problem) { p.Vehicles[0].PerTime = -1 })
	none("breaks", func(p *api.Problem) {
		p.Vehicles[0].Breaks = append(p.Vehicles[0].Breaks, p.Vehicles[0].Breaks[0])
	})
	none("a break", func(p *api.Problem) { p.Vehicles[0].Breaks[1].Windows = nil })
	none("a job's stop", func(p *api.Problem) { p.Jobs[0].Stop.Place = -1 })
	none("a job's windows", func(p *api.Problem) { p.Jobs[1].Stop.Windows = spans(5, 9, 9, 12) })
	none("a job's drop", func(p *api.Problem) { p.Jobs[2].Drop = nil })
	none("a priority", func(p *api.Problem) { p.Jobs[2].Priority = 101 })
	none("a shipment's amount", func(p *api.Problem) { p.Shipments[0].Amount = []int{1, -1} })
	none("a shipment's stop", func(p *api.Problem) { p.Shipments[1].Delivery.Service = -1 })
	none("a task, though there's no vehicle", func(p *api.Problem) { p.Vehicles, p.Jobs[0].Priority = nil, -1 })
}
