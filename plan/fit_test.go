package plan

import (
	"fmt"
	"math/rand"
	"reflect"
	"slices"
	"testing"

	"haulier/api"
)

// refuses: does Fit answer this error, and nothing beside it?
func refuses(t *testing.T, what string, p api.Problem, vehicle int, visits []api.Visit, want api.Errno) {
	t.Helper()
	lawful(t, p)
	got, e := Fit(p, vehicle, visits)
	if e != want {
		t.Errorf("P13.4: %s: Fit(%d, %v): %d, want %d", what, vehicle, visits, e, want)
	}
	if !reflect.DeepEqual(got, api.Plan{}) {
		t.Errorf("R3: %s: Fit(%d, %v): %+v beside %d", what, vehicle, visits, got, e)
	}
}

func rests(service int, ends ...int) api.Break {
	return api.Break{Windows: spans(ends...), Service: service}
}

func TestFitExamples(t *testing.T) {
	fits(t, "no break", line(), list(job(0)))
	fits(t, "a break from 0 to 3", line(rests(2, 0, 3)), list(job(0)), 0)
	x, _ := Fit(line(rests(2, 0, 3)), 0, list(job(0)))
	want := api.Plan{
		Steps: []api.Step{
			{Visit: start()},
			{Visit: pause(0), Service: 2},
			{Visit: job(0), Place: 1, Arrival: 12, Wait: 18, Service: 5, Time: 10, Dist: 10},
			{Visit: end(), Arrival: 45, Time: 20, Dist: 20},
		},
		Time: 20, Dist: 20, Wait: 18, Service: 7, Cost: 20,
	}
	if !same(x, want) {
		t.Errorf("P13.4: %+v, want %+v", x, want)
	}
	refuses(t, "a break from 33 to 34", line(rests(2, 33, 34)), 0, list(job(0)), api.ErrTime)
	fits(t, "a break from 35 to 50", line(rests(2, 35, 50)), list(job(0)), 1)
	x, _ = Fit(line(rests(2, 35, 50)), 0, list(job(0)))
	if x.Steps[2].Place != 1 || x.Steps[2].Arrival != 35 || x.Steps[3].Arrival != 47 {
		t.Errorf("P13.4: %+v", x)
	}
}

// street: jobs 0, 1, .. at the places 1, 2, .., 10 apart from each other, at each of which one stays for 10 moments; the vehicle ends at the last one. So, without breaks, one leaves the start at 0, the first job at 20, the second one at 40.
func street(n int, breaks ...api.Break) (api.Problem, []api.Visit) {
	m := api.Matrix{N: n + 1}
	for from := range n + 1 {
		for to := range n + 1 {
			m.Cells = append(m.Cells, 10*max(to-from, from-to))
		}
	}
	p := api.Problem{Time: m, Dist: m, Vehicles: []api.Vehicle{{End: n, Shift: api.Window{To: 1000}, PerTime: 1, MaxTasks: 12, Breaks: breaks}}}
	var l []api.Visit
	for i := range n {
		p.Jobs = append(p.Jobs, api.Job{Stop: api.Stop{Place: i + 1, Service: 10, Windows: spans(0, 1000)}})
		l = append(l, job(i))
	}
	return p, l
}

// punctual: the jobs of a street may not wait: they begin at the moment at which one comes to them without a break.
func punctual(p api.Problem) {
	for i := range p.Jobs {
		p.Jobs[i].Stop.Windows = spans(20*i+10, 20*i+10)
	}
}

// TestFitOneBreak: a break that can be taken only when one leaves the k-th visit.
func TestFitOneBreak(t *testing.T) {
	for n := range 7 {
		for k := range n + 1 {
			p, l := street(n, rests(0, 20*k, 20*k))
			punctual(p)
			fits(t, fmt.Sprintf("%d jobs, a break at %d", n, 20*k), p, l, k)
			for _, off := range []int{1, 5, 19} {
				p, l = street(n, rests(0, 20*k+off, 20*k+off))
				punctual(p)
				if k < n {
					refuses(t, fmt.Sprintf("%d jobs, a break at %d", n, 20*k+off), p, 0, l, api.ErrTime)
				} else {
					fits(t, fmt.Sprintf("%d jobs, a break at %d", n, 20*k+off), p, l, n)
				}
			}
		}
	}
}

// TestFitTwoBreaks: two breaks that can be taken only when one leaves the j-th and the k-th visit.
func TestFitTwoBreaks(t *testing.T) {
	for n := range 6 {
		for j := range n + 1 {
			for k := range n + 1 {
				p, l := street(n, rests(0, 20*j, 20*j), rests(0, 20*k, 20*k))
				punctual(p)
				what := fmt.Sprintf("%d jobs, breaks at %d and %d", n, 20*j, 20*k)
				if j <= k {
					fits(t, what, p, l, j, k)
				} else {
					refuses(t, what, p, 0, l, api.ErrTime)
				}
			}
		}
	}
}

// TestFitFirst: of several places the first ones are taken, the first break's first.
func TestFitFirst(t *testing.T) {
	all := spans(0, 1000)
	for n := range 6 {
		p, l := street(n, api.Break{Windows: all, Service: 3}, api.Break{Windows: all, Service: 4})
		fits(t, "any places", p, l, 0, 0)
		p.Vehicles[0].Breaks = p.Vehicles[0].Breaks[:1]
		fits(t, "any place", p, l, 0)
		p.Vehicles[0].Breaks = nil
		fits(t, "no break", p, l)
	}
	p, l := street(4, rests(0, 20, 60), rests(0, 40, 80))
	punctual(p)
	fits(t, "1 to 3, and 2 to 4", p, l, 1, 2)
	p, l = street(4, rests(0, 0, 60), rests(0, 60, 60))
	punctual(p)
	fits(t, "0 to 3, and 3", p, l, 0, 3)
	p, l = street(4, rests(0, 40, 60), rests(0, 0, 60))
	punctual(p)
	fits(t, "2 to 3, and 0 to 3", p, l, 2, 2)
	p, l = street(4, rests(0, 0, 0, 40, 40), rests(0, 20, 20, 80, 80))
	punctual(p)
	fits(t, "0 or 2, and 1 or 4", p, l, 0, 1)
	p.Vehicles[0].Breaks[1].Windows = spans(10, 10, 40, 40)
	fits(t, "0 or 2, and 2", p, l, 0, 2)
}

// TestFitWaitsAhead: a break is taken at the first place where it can be, though one waits there, if all is still in time.
func TestFitWaitsAhead(t *testing.T) {
	p, l := street(3, rests(5, 50, 60))
	fits(t, "waits at the start", p, l, 0)
	p.Jobs[0].Stop.Windows = spans(0, 64)
	fits(t, "no waiting ahead of job 0, which then is come to at 65", p, l, 1)
	p.Jobs[0].Stop.Windows = spans(0, 65)
	fits(t, "job 0 is come to at 65", p, l, 0)
	p.Jobs[0].Stop.Windows = spans(0, 64)
	p.Jobs[1].Stop.Windows = spans(0, 64)
	fits(t, "nor ahead of job 1", p, l, 2)
	p.Jobs[2].Stop.Windows = spans(0, 64)
	fits(t, "nor ahead of job 2, behind which it is taken at 60", p, l, 3)
	p.Vehicles[0].Breaks[0].Windows = spans(50, 59)
	refuses(t, "nor behind it", p, 0, l, api.ErrTime)
}

// TestFitService: a break's length counts: at its place all behind it is still in time, or just not.
func TestFitService(t *testing.T) {
	for service := range 60 {
		p, l := street(3, rests(service, 0, 1000))
		for i := range 3 {
			p.Jobs[i].Stop.Windows = spans(0, 20*i+10+10*(i+1))
		}
		want := 3
		if service <= 30 {
			want = 2
		}
		if service <= 20 {
			want = 1
		}
		if service <= 10 {
			want = 0
		}
		fits(t, fmt.Sprint("a break of ", service), p, l, want)
	}
}

// TestFitShift: the shift's end, missed wherever the breaks are.
func TestFitShift(t *testing.T) {
	p, l := street(3, rests(5, 0, 1000), rests(7, 0, 1000))
	p.Vehicles[0].Shift.To = 72
	fits(t, "ends at 72", p, l, 0, 0)
	p.Vehicles[0].Shift.To = 71
	refuses(t, "ends at 72, behind the shift", p, 0, l, api.ErrTime)
	p, l = street(3, rests(5, 25, 1000))
	p.Vehicles[0].Shift.To = 65
	fits(t, "behind job 0 it waits 5, behind job 1 no more", p, l, 2)
	p.Vehicles[0].Shift.To = 69
	fits(t, "waiting for 5 is one too much", p, l, 2)
	p.Vehicles[0].Shift.To = 70
	fits(t, "it may wait for 5", p, l, 1)
	p.Vehicles[0].Shift.To = 90
	fits(t, "it may wait for 25", p, l, 0)
	p.Vehicles[0].Shift.To = 64
	refuses(t, "ends at 65", p, 0, l, api.ErrTime)
}

// TestFitNoVisits: breaks alone are taken at the start.
func TestFitNoVisits(t *testing.T) {
	p, l := street(0, rests(5, 3, 9), rests(7, 20, 20))
	fits(t, "no visits", p, l, 0, 0)
	p.Vehicles[0].Breaks[1].Windows = spans(7, 7)
	refuses(t, "the second break is missed", p, 0, l, api.ErrTime)
	p.Vehicles[0].Breaks = nil
	fits(t, "nothing", p, nil)
}

// TestFitErrVehicle, and the errors that come ahead of others.
func TestFitErrors(t *testing.T) {
	p := town()
	for _, vehicle := range beyond(1) {
		refuses(t, "no vehicle", p, vehicle, nil, api.ErrVehicle)
		refuses(t, "no vehicle, and a break", p, vehicle, list(pause(0)), api.ErrVehicle)
		refuses(t, "no vehicle, and no visit", p, vehicle, list(job(9)), api.ErrVehicle)
	}
	for _, i := range append(beyond(2), 0, 1) {
		for at := range 4 {
			l := slices.Insert(list(pickup(0), job(1), delivery(0)), at, pause(i))
			refuses(t, "a break", p, 0, l, api.ErrBreak)
			refuses(t, "a break of a vehicle without any", bare(), 0, l, api.ErrBreak)
			refuses(t, "a break, and no visit", p, 0, append(list(job(9)), l...), api.ErrBreak)
		}
		refuses(t, "a break alone", p, 0, list(pause(i)), api.ErrBreak)
	}
	refuses(t, "all of the breaks", p, 0, tour0(), api.ErrBreak)
	for _, k := range kinds() {
		refuses(t, "no kind", p, 0, list(job(0), api.Visit{Kind: k}), api.ErrVisit)
	}
	refuses(t, "a job twice", p, 0, list(job(0), job(0)), api.ErrVisit)
	refuses(t, "no delivery", p, 0, list(pickup(0)), api.ErrVisit)
	refuses(t, "no pickup", p, 0, list(delivery(0)), api.ErrVisit)
	refuses(t, "no job", p, 0, list(job(3)), api.ErrVisit)
}

// TestFitErrorOrder: what Of tells ahead of ErrTime is told though no place of the breaks is in time.
func TestFitErrorOrder(t *testing.T) {
	all := wrongs()[3:]
	route := slices.DeleteFunc(tour0(), isBreak)
	for i, ways := range all {
		for _, w := range ways {
			for late := range 3 {
				p, vehicle, l := town(), 0, slices.Clone(route)
				w.spoil(&p, &vehicle, &l)
				want := w.e
				if late > 0 {
					all[4][late-1].spoil(&p, &vehicle, &l)
				}
				if w.e == api.ErrTime && late == 0 && reflect.DeepEqual(p.Vehicles[0].Breaks[0].Windows, spans(0, 20)) {
					continue // a break at 20 is in time, if it is ahead of all
				}
				refuses(t, fmt.Sprintf("wrong %d, late %d", i, late), p, 0, l, want)
			}
		}
	}
}

// TestFitMany: more visits than there can be are refused as such, with breaks too.
func TestFitMany(t *testing.T) {
	for _, n := range []int{25, 26, 100, 100000} {
		refuses(t, "more than may be", town(), 0, slices.Repeat(list(job(0)), n), api.ErrVisit)
	}
}

// TestFitGreatest: 24 visits without a moment between them, and two breaks at each two of the moments at which one leaves.
func TestFitGreatest(t *testing.T) {
	m := square(2, 0, 10, 10, 0)
	p := api.Problem{Time: m, Dist: m, Vehicles: []api.Vehicle{{End: 1, Shift: api.Window{To: 1000}, MaxTasks: 12}}}
	at := func(moment int) api.Stop {
		return api.Stop{Place: 1, Service: 1, Windows: spans(moment, moment)}
	}
	var pickups, deliveries []api.Visit
	for i := range 12 {
		p.Shipments = append(p.Shipments, api.Shipment{Pickup: at(10 + i), Delivery: at(22 + i)})
		pickups, deliveries = append(pickups, pickup(i)), append(deliveries, delivery(i))
	}
	l := append(pickups, deliveries...)
	leaves := func(n int) int {
		if n == 0 {
			return 0
		}
		return 10 + n
	}
	for j := range 25 {
		for k := range 25 {
			p.Vehicles[0].Breaks = []api.Break{rests(0, leaves(j), leaves(j)), rests(0, leaves(k), leaves(k))}
			what := fmt.Sprintf("behind %d and %d of 24 visits", j, k)
			if j <= k {
				fits(t, what, p, l, j, k)
			} else {
				refuses(t, what, p, 0, l, api.ErrTime)
			}
		}
		p.Vehicles[0].Breaks = []api.Break{rests(0, leaves(j), leaves(j)), rests(9, 0, 1000)}
		fits(t, "then one that takes time", p, l, j, 24)
		p.Vehicles[0].Breaks = []api.Break{rests(9, 0, leaves(j)), rests(0, 0, 1000)}
		if j == 24 {
			fits(t, "one that takes time, at the end", p, l, 24, 24)
		} else {
			refuses(t, "one that takes time, then another", p, 0, l, api.ErrTime)
		}
	}
}

// firstFit: what the chapter's words make of Fit: each place of the breaks in its order, by the reckoning.
func firstFit(p api.Problem, vehicle int, visits []api.Visit) (api.Plan, api.Errno) {
	if vehicle < 0 || vehicle >= len(p.Vehicles) {
		return api.Plan{}, api.ErrVehicle
	}
	for _, v := range visits {
		if v.Kind == api.AtBreak {
			return api.Plan{}, api.ErrBreak
		}
	}
	for _, at := range places(len(p.Vehicles[vehicle].Breaks), len(visits)) {
		if x, e := reckoned(p, vehicle, Set(visits, at)); e != api.ErrTime {
			return x, e
		}
	}
	return api.Plan{}, api.ErrTime
}

// TestFitDrawn: drawn problems and routes, held against each place of the breaks, one behind the other.
func TestFitDrawn(t *testing.T) {
	r := rand.New(rand.NewSource(15))
	seen, at := map[api.Errno]int{}, map[string]int{}
	for range 60000 {
		p := drawnProblem(r)
		vehicle := r.Intn(len(p.Vehicles))
		l := drawnRoute(r, p)
		if r.Intn(10) == 0 {
			l = spoilt(r, l)
		}
		if r.Intn(40) == 0 {
			vehicle = r.Intn(6) - 1
		}
		want, e := firstFit(p, vehicle, l)
		seen[e]++
		if got, is := Fit(p, vehicle, l); is != e || !same(got, want) {
			t.Fatalf("P13.4: %+v\nFit(%d, %v):\n%+v, %d, want\n%+v, %d", p, vehicle, l, got, is, want, e)
		}
		if e == api.OK && len(p.Vehicles[vehicle].Breaks) == 2 {
			var row []int
			for i, s := range want.Steps {
				if s.Visit.Kind == api.AtBreak {
					row = append(row, i-len(row)-1)
				}
			}
			at[fmt.Sprint(row)]++
		}
	}
	for _, e := range []api.Errno{api.OK, api.ErrVehicle, api.ErrVisit, api.ErrBreak, api.ErrSkill, api.ErrTasks, api.ErrLoad, api.ErrTravel, api.ErrTime} {
		if seen[e] < 200 {
			t.Errorf("only %d routes of the answer %d were drawn", seen[e], e)
		}
	}
	for _, row := range places(2, 3) {
		if at[fmt.Sprint(row)] < 10 {
			t.Errorf("breaks at %v only %d times", row, at[fmt.Sprint(row)])
		}
	}
}

// TestSameSums: whatever the places of the breaks, Time, Dist and Cost are the same, and those of a vehicle without breaks.
func TestSameSums(t *testing.T) {
	r := rand.New(rand.NewSource(16))
	compared := 0
	for range 4000 {
		p := drawnProblem(r)
		l := drawnRoute(r, p)
		without := p
		without.Vehicles = slices.Clone(p.Vehicles)
		without.Vehicles[0].Breaks = nil
		bare, e := Of(without, 0, l)
		for _, at := range places(len(p.Vehicles[0].Breaks), len(l)) {
			x, is := Of(p, 0, Set(l, at))
			if is != api.OK {
				continue
			}
			compared++
			if e != api.OK || x.Time != bare.Time || x.Dist != bare.Dist || x.Cost != bare.Cost {
				t.Fatalf("P13.5: %+v\n%v, breaks at %v: %+v, without them %+v, %d", p, l, at, x, bare, e)
			}
		}
	}
	if compared < 4000 {
		t.Errorf("only %d plans were compared", compared)
	}
}

// earliest: when one can come to each step at the earliest, if one may begin each visit at any moment of its windows, and leave the start at any one; nil: one can't come to the end. Moments are gone through one by one.
func earliest(p api.Problem, visits []api.Visit) []int {
	const day = 250
	car := p.Vehicles[0]
	can := make([]bool, day) // leave at this moment
	for at := car.Shift.From; at < day; at++ {
		can[at] = true
	}
	first := []int{car.Shift.From}
	here := car.Start
	for i := range len(visits) + 1 {
		stop := api.Stop{Place: car.End, Windows: []api.Window{car.Shift}}
		if i < len(visits) {
			stop = stopAt(p, car, visits[i], here)
		}
		time := p.Time.Cells[here*p.Time.N+stop.Place]
		come, leave := -1, make([]bool, day)
		for at := range day {
			if !can[at] {
				continue
			}
			if come < 0 {
				come = at + time
			}
			for begin := at + time; begin+stop.Service < day; begin++ {
				for _, w := range stop.Windows {
					if w.From <= begin && begin <= w.To {
						leave[begin+stop.Service] = true
					}
				}
			}
		}
		if !slices.Contains(leave, true) {
			return nil
		}
		first, can, here = append(first, come), leave, stop.Place
	}
	return first
}

// TestNoneEarlier: no other way to drive the same list comes anywhere earlier; and what is told to be too late can't be driven in time at all.
func TestNoneEarlier(t *testing.T) {
	r := rand.New(rand.NewSource(17))
	seen := map[api.Errno]int{}
	for range 4000 {
		p := drawnProblem(r)
		p.Vehicles[0].Shift.To = min(p.Vehicles[0].Shift.To, 150)
		l := drawnRoute(r, p)
		l = Set(l, drawnPlaces(r, len(p.Vehicles[0].Breaks), len(l)))
		x, e := Of(p, 0, l)
		seen[e]++
		if e != api.OK && e != api.ErrTime {
			continue
		}
		var got []int
		for _, s := range x.Steps {
			got = append(got, s.Arrival)
		}
		if want := earliest(p, l); !slices.Equal(got, want) {
			t.Fatalf("P13.5: %+v\n%v: comes at %v, could at %v", p, l, got, want)
		}
	}
	if seen[api.OK] < 400 || seen[api.ErrTime] < 400 {
		t.Errorf("drawn: %v", seen)
	}
}
