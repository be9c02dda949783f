package slack

import (
	"fmt"
	"slices"
	"testing"

	"haulier/api"
	"haulier/plan"
)

// late: is this what Latest answers, is Spare it less the arrivals, and does Ends hold to it?
func late(t *testing.T, what string, p api.Problem, x api.Plan, want ...int) {
	t.Helper()
	if got := Latest(p, x); !slices.Equal(got, want) {
		t.Errorf("P14.1: %s: Latest %v, want %v", what, got, want)
		return
	}
	spare := make([]int, len(want))
	for i := range want {
		spare[i] = want[i] - x.Steps[i].Arrival
	}
	if got := Spare(p, x); !slices.Equal(got, spare) {
		t.Errorf("P14.2: %s: Spare %v, want %v", what, got, spare)
	}
	for i := range want {
		if end, there := Ends(p, x, i, want[i]); !there || end > p.Vehicles[x.Vehicle].Shift.To {
			t.Errorf("P14.2: %s: Ends(%d, %d), its Latest: %d, %v", what, i, want[i], end, there)
		}
		ends(t, what, p, x, i, x.Steps[i].Arrival, x.Steps[len(x.Steps)-1].Arrival)
		never(t, what, p, x, i, want[i]+1)
	}
}

// ends: does Ends answer this, and true?
func ends(t *testing.T, what string, p api.Problem, x api.Plan, i, at, want int) {
	t.Helper()
	if end, there := Ends(p, x, i, at); end != want || !there {
		t.Errorf("P14.2: %s: Ends(%d, %d): %d, %v, want %d, true", what, i, at, end, there, want)
	}
}

// never: does Ends answer 0, false?
func never(t *testing.T, what string, p api.Problem, x api.Plan, i, at int) {
	t.Helper()
	if end, there := Ends(p, x, i, at); end != 0 || there {
		t.Errorf("P14.2: %s: Ends(%d, %d): %d, %v, want 0, false", what, i, at, end, there)
	}
}

func TestExamples(t *testing.T) {
	p := line(100, spans(30, 40))
	x := planned(t, p, job(0))
	if got := Latest(p, x); !slices.Equal(got, []int{30, 40, 100}) {
		t.Errorf("P14.1: Latest %v", got)
	}
	if got := Spare(p, x); !slices.Equal(got, []int{30, 30, 55}) {
		t.Errorf("P14.2: Spare %v", got)
	}
	ends(t, "the example", p, x, 1, 40, 55)
	never(t, "the example", p, x, 1, 41)
	ends(t, "the example", p, x, 0, 30, 55)
	late(t, "the example", p, x, 30, 40, 100)
}

// TestBreakExamples: the examples of chapter 13 with a break.
func TestBreakExamples(t *testing.T) {
	p := line(100, spans(30, 40), rests(2, 0, 3))
	late(t, "a break ahead", p, planned(t, p, pause(0), job(0)), 3, 3, 40, 100)
	p = line(100, spans(30, 40), rests(2, 35, 50))
	late(t, "a break behind", p, planned(t, p, job(0), pause(0)), 30, 40, 50, 100)
}

// TestOneWindow: the job's window binds, or the end does.
func TestOneWindow(t *testing.T) {
	for to := 45; to < 120; to++ {
		p := line(to, spans(30, 40))
		at := min(40, to-15)
		late(t, fmt.Sprint("a shift to ", to), p, planned(t, p, job(0)), at-10, at, to)
	}
	p := line(100, spans(10, 10))
	late(t, "one moment", p, planned(t, p, job(0)), 0, 10, 100)
	p = line(25, always())
	late(t, "no moment to spare", p, planned(t, p, job(0)), 0, 10, 25)
	p = line(1000000, always())
	late(t, "all the time", p, planned(t, p, job(0)), 999975, 999985, 1000000)
}

// TestSeveralWindows: the last time that the end allows lies in a window, ahead of all but one, or between two.
func TestSeveralWindows(t *testing.T) {
	for to := 25; to < 100; to++ {
		p := line(to, spans(0, 12, 20, 30, 31, 33, 50, 60))
		at := to - 15
		switch {
		case at < 20:
			at = min(at, 12)
		case at < 50:
			at = min(at, 33)
		default:
			at = min(at, 60)
		}
		late(t, fmt.Sprint("a shift to ", to), p, planned(t, p, job(0)), at-10, at, to)
	}
}

// TestBreakWindows: the same of a break, ahead of the job, and behind it.
func TestBreakWindows(t *testing.T) {
	for to := 30; to < 100; to++ {
		p := line(to, always(), rests(5, 0, 5, 15, 20, 40, 42))
		at := to - 30
		switch {
		case at < 15:
			at = min(at, 5)
		case at < 40:
			at = min(at, 20)
		default:
			at = min(at, 42)
		}
		late(t, fmt.Sprint("a break ahead, a shift to ", to), p, planned(t, p, pause(0), job(0)), at, at, to-15, to)
	}
	for to := 30; to < 100; to++ {
		p := line(to, always(), rests(5, 0, 15, 25, 30, 40, 42))
		at := to - 15
		switch {
		case at < 25:
			at = min(at, 15)
		case at < 40:
			at = min(at, 30)
		default:
			at = min(at, 42)
		}
		late(t, fmt.Sprint("a break behind, a shift to ", to), p, planned(t, p, job(0), pause(0)), at-15, at-5, at, to)
	}
}

// TestTwoBreaks: one behind the other, each with its own windows and service.
func TestTwoBreaks(t *testing.T) {
	p := line(100, always(), rests(3, 0, 90), rests(7, 0, 50))
	late(t, "ahead", p, planned(t, p, pause(0), pause(1), job(0)), 47, 47, 50, 85, 100)
	late(t, "around", p, planned(t, p, pause(0), job(0), pause(1)), 32, 32, 45, 50, 100)
	late(t, "behind", p, planned(t, p, job(0), pause(0), pause(1)), 32, 42, 47, 50, 100)
	p = line(100, always(), rests(3, 0, 20), rests(7, 0, 50))
	late(t, "the first one binds", p, planned(t, p, pause(0), pause(1), job(0)), 20, 20, 50, 85, 100)
}

// TestNoVisits: a start and an end.
func TestNoVisits(t *testing.T) {
	p := town()
	p.Vehicles[0].Breaks = nil
	x := planned(t, p)
	late(t, "5 apart", p, x, 995, 1000)
	ends(t, "5 apart", p, x, 0, 20, 25)
	ends(t, "5 apart", p, x, 0, 500, 505)
	ends(t, "5 apart", p, x, 0, 995, 1000)
	p.Vehicles[0].Shift = api.Window{From: 20, To: 25}
	late(t, "no moment to spare", p, planned(t, p), 20, 25)
	p.Vehicles[0].End = 0
	late(t, "at one place", p, planned(t, p), 25, 25)
	p.Vehicles[0].Shift = api.Window{From: 20, To: 20}
	late(t, "one moment", p, planned(t, p), 20, 20)
	p.Vehicles[0].Breaks = []api.Break{rests(0, 10, 30)}
	late(t, "a break alone", p, planned(t, p, pause(0)), 20, 20, 20)
}

// TestTown: each kind of visit, whose window binds those ahead of it, and none behind it; reckoned by hand.
func TestTown(t *testing.T) {
	for _, c := range []struct {
		what   string
		change func(p *api.Problem)
		want   []int
	}{
		{"the end binds", func(p *api.Problem) {}, []int{904, 904, 912, 916, 937, 940, 946, 951, 979, 989, 1000}},
		{"a shift to 116", func(p *api.Problem) { p.Vehicles[0].Shift.To = 116 }, []int{20, 20, 28, 32, 53, 56, 62, 67, 95, 105, 116}},
		{"a shift to 117", func(p *api.Problem) { p.Vehicles[0].Shift.To = 117 }, []int{21, 21, 29, 33, 54, 57, 63, 68, 96, 106, 117}},
		{"the first visit", func(p *api.Problem) { p.Shipments[1].Pickup.Windows = spans(0, 20) }, []int{20, 20, 912, 916, 937, 940, 946, 951, 979, 989, 1000}},
		{"a job", func(p *api.Problem) { p.Jobs[0].Stop.Windows = spans(0, 911) }, []int{903, 903, 911, 916, 937, 940, 946, 951, 979, 989, 1000}},
		{"a break, between two windows", func(p *api.Problem) { p.Vehicles[0].Breaks[0].Windows = spans(30, 40, 50, 60, 70, 80, 917, 2000) }, []int{68, 68, 76, 80, 937, 940, 946, 951, 979, 989, 1000}},
		{"a break, at its last window's beginning", func(p *api.Problem) { p.Vehicles[0].Breaks[0].Windows = spans(30, 40, 50, 60, 70, 80, 916, 2000) }, []int{904, 904, 912, 916, 937, 940, 946, 951, 979, 989, 1000}},
		{"a pickup", func(p *api.Problem) { p.Shipments[0].Pickup.Windows = spans(0, 60, 900, 930) }, []int{897, 897, 905, 909, 930, 940, 946, 951, 979, 989, 1000}},
		{"a delivery, between two windows", func(p *api.Problem) { p.Shipments[1].Delivery.Windows = spans(0, 100, 950, 960) }, []int{58, 58, 66, 70, 91, 94, 100, 951, 979, 989, 1000}},
		{"a break at once", func(p *api.Problem) { p.Vehicles[0].Breaks[1].Windows = spans(67, 67) }, []int{20, 20, 28, 32, 53, 56, 62, 67, 979, 989, 1000}},
		{"a job, between two windows", func(p *api.Problem) { p.Jobs[2].Stop.Windows = spans(0, 95, 97, 99, 980, 990) }, []int{24, 24, 32, 36, 57, 60, 66, 71, 99, 989, 1000}},
		{"the last visit, for which one waits", func(p *api.Problem) { p.Shipments[0].Delivery.Windows = spans(988, 988) }, []int{903, 903, 911, 915, 936, 939, 945, 950, 978, 988, 1000}},
	} {
		p := town()
		c.change(&p)
		late(t, c.what, p, planned(t, p, tour()...), c.want...)
	}
}

// TestEndsInTown: one goes on as early as may be, and waits where a window isn't open; reckoned by hand.
func TestEndsInTown(t *testing.T) {
	p := town()
	x := planned(t, p, tour()...)
	for i, s := range x.Steps {
		for more := range 885 {
			ends(t, "no waiting", p, x, i, s.Arrival+more, 116+more)
		}
	}
	p.Jobs[2].Stop.Windows = spans(0, 95, 97, 99, 980, 990)
	x = planned(t, p, tour()...)
	for more, want := range []int{116, 118, 118, 119, 120} {
		for i := range 9 {
			ends(t, "waiting for the second window", p, x, i, x.Steps[i].Arrival+more, want)
		}
		ends(t, "behind it", p, x, 9, 105+more, 116+more)
		ends(t, "behind it", p, x, 10, 116+more, 116+more)
	}
	p.Vehicles[0].Breaks[1].Windows = spans(500, 600)
	p.Jobs[2].Stop.Windows = always()
	x = planned(t, p, tour()...)
	for i := range 8 {
		ends(t, "waiting for a break", p, x, i, x.Steps[i].Arrival+300, 549)
		ends(t, "waiting for a break, from its Latest on", p, x, i, x.Steps[i].Arrival+533, 649)
		never(t, "a break that is missed", p, x, i, x.Steps[i].Arrival+534)
	}
}

// TestEndsEarlier: times ahead of the arrival: visits wait for their windows, the start is left then.
func TestEndsEarlier(t *testing.T) {
	p := town()
	x := planned(t, p, tour()...)
	for i, s := range x.Steps {
		for less := range s.Arrival + 1 {
			ends(t, "earlier", p, x, i, s.Arrival-less, 116-less)
		}
	}
	for _, at := range []int{-1, -9, -1000, -1 << 32, -1 << 62} {
		ends(t, "ahead of all windows", p, x, 0, at, 96)
		for i := 1; i < 10; i++ {
			ends(t, "ahead of all windows", p, x, i, at, 116-x.Steps[i].Arrival)
		}
		ends(t, "the end itself", p, x, 10, at, at)
	}
	p = line(100, spans(30, 40))
	x = planned(t, p, job(0))
	for _, at := range []int{-1 << 63, -1 << 40, -1, 0, 9, 10, 11, 20, 30} {
		ends(t, "it waits", p, x, 1, at, 45)
	}
	ends(t, "it waits no more", p, x, 1, 31, 46)
	p.Vehicles[0].Shift.From, p.Vehicles[0].Breaks = 50, nil
	x = planned(t, p)
	for _, at := range []int{-3, 0, 49, 50, 51, 100} {
		ends(t, "without visits", p, x, 0, at, at)
		ends(t, "without visits", p, x, 1, at, at)
	}
}

// TestEndsNoStep: a step that isn't there has no end, whatever the time.
func TestEndsNoStep(t *testing.T) {
	p := town()
	x := planned(t, p, tour()...)
	for _, i := range beyond(len(x.Steps)) {
		for _, at := range []int{-1 << 63, -1, 0, 20, 100, 1000, 1<<63 - 1} {
			never(t, "no step", p, x, i, at)
		}
	}
	for i := range x.Steps {
		for _, at := range []int{1001, 1000000, 1 << 62, 1<<63 - 1} {
			never(t, "too late", p, x, i, at)
		}
	}
}

// nothing: has the plan no latest times, no spare ones, and no end?
func nothing(t *testing.T, what string, p api.Problem, x api.Plan) {
	t.Helper()
	if got := Latest(p, x); len(got) != 0 {
		t.Errorf("P14.1: %s: Latest %v", what, got)
	}
	if got := Spare(p, x); len(got) != 0 {
		t.Errorf("P14.2: %s: Spare %v", what, got)
	}
	for _, i := range append(beyond(len(x.Steps)), 0, 1, 2) {
		for _, at := range []int{-1 << 63, -1, 0, 20, 1000, 1<<63 - 1} {
			never(t, what, p, x, i, at)
		}
	}
}

func TestNone(t *testing.T) {
	p := town()
	whole := planned(t, p, tour()...)
	nothing(t, "no plan", p, api.Plan{})
	nothing(t, "no problem, no plan", api.Problem{}, api.Plan{})
	for n := range 2 {
		x := whole
		x.Steps = x.Steps[:n]
		nothing(t, fmt.Sprint(n, " steps"), p, x)
		nothing(t, fmt.Sprint(n, " steps, no vehicle"), api.Problem{}, x)
		x.Vehicle = 1
		nothing(t, fmt.Sprint(n, " steps, another vehicle"), p, x)
	}
	for _, vehicle := range beyond(1) {
		for _, visits := range [][]api.Visit{tour(), nil} {
			p := town()
			if visits == nil {
				p.Vehicles[0].Breaks = nil
			}
			x := planned(t, p, visits...)
			x.Vehicle = vehicle
			nothing(t, fmt.Sprint("vehicle ", vehicle), p, x)
		}
	}
	p.Vehicles = nil
	nothing(t, "a problem without vehicles", p, whole)
}

// TestOtherVehicle: a plan's own vehicle counts: its shift, its breaks.
func TestOtherVehicle(t *testing.T) {
	p := line(100, spans(30, 40))
	for i := range 3 {
		p.Vehicles = append(p.Vehicles, p.Vehicles[0])
		p.Vehicles[i+1].Shift.To = 54 - i
		p.Vehicles[i+1].Breaks = []api.Break{rests(i, 0, 10*(i+1))}
	}
	for vehicle, want := range [][]int{{30, 40, 100}, {10, 10, 39, 54}, {20, 20, 38, 53}, {25, 25, 37, 52}} {
		x, e := plan.Fit(p, vehicle, list(job(0)))
		if e != api.OK {
			t.Fatalf("no plan of vehicle %d: %d", vehicle, e)
		}
		late(t, fmt.Sprint("vehicle ", vehicle), p, x, want...)
	}
}

// TestGreatest: the greatest times, and a plan of the most steps.
func TestGreatest(t *testing.T) {
	p := line(1000000, spans(0, 10))
	p.Jobs[0].Stop.Service = 999980
	late(t, "no moment to spare", p, planned(t, p, job(0)), 0, 10, 1000000)
	p.Jobs[0].Stop = api.Stop{Service: 1000000, Windows: spans(0, 0)}
	late(t, "a service of the whole day", p, planned(t, p, job(0)), 0, 0, 1000000)
	p.Vehicles[0].Shift.From = 1000000
	p.Jobs[0].Stop = api.Stop{Windows: spans(0, 1, 1000000, 1000000)}
	late(t, "the last moment", p, planned(t, p, job(0)), 1000000, 1000000, 1000000)

	p = line(1000000, always(), rests(1000, 0, 1000000), rests(1000, 0, 1000000))
	p.Jobs, p.Vehicles[0].MaxTasks = nil, 12
	var route []api.Visit
	for i := range 12 {
		p.Shipments = append(p.Shipments, api.Shipment{Pickup: api.Stop{Place: 1, Service: 1000, Windows: always()}, Delivery: api.Stop{Service: 1000, Windows: always()}})
		route = append(route, pickup(i), delivery(i))
	}
	x := planned(t, p, plan.Set(route, []int{7, 24})...)
	var want []int
	for _, s := range x.Steps {
		want = append(want, s.Arrival+1000000-26*1000-24*10)
	}
	late(t, "26 visits", p, x, want...)
}

// TestDrawn: drawn plans, each step asked time by time: up to its Latest all is in time, and ends when it does; from one later on it isn't.
func TestDrawn(t *testing.T) {
	all := drawnPlans(141, 24000)
	if len(all) < 5000 {
		t.Errorf("only %d plans", len(all))
	}
	for _, d := range all {
		latest, spare := Latest(d.p, d.x), Spare(d.p, d.x)
		if len(latest) != len(d.x.Steps) || len(spare) != len(d.x.Steps) {
			t.Fatalf("P14.1: %+v\n%+v: Latest %v, Spare %v", d.p, d.x, latest, spare)
		}
		if end := len(latest) - 1; latest[end] != d.p.Vehicles[d.x.Vehicle].Shift.To {
			t.Fatalf("P14.1: %+v\n%+v: Latest %v", d.p, d.x, latest)
		}
		l := stops(d.p, d.x.Vehicle, d.visits)
		for i, s := range d.x.Steps {
			if spare[i] != latest[i]-s.Arrival || spare[i] < 0 {
				t.Fatalf("P14.2: %+v\n%+v: Spare %v, Latest %v", d.p, d.x, spare, latest)
			}
			for at := s.Arrival - 30; at < latest[i]+30; at++ {
				want, is := driven(d.p, d.x.Vehicle, l, i, at)
				if is != (at <= latest[i]) {
					t.Fatalf("P14.1: %+v\n%+v: Latest %v, at %d of step %d: in time: %v", d.p, d.x, latest, at, i, is)
				}
				if end, there := Ends(d.p, d.x, i, at); end != want || there != is {
					t.Fatalf("P14.2: %+v\n%+v: Ends(%d, %d): %d, %v, want %d, %v", d.p, d.x, i, at, end, there, want, is)
				}
			}
		}
	}
}

// TestDrawnKinds: among the drawn plans are, of each kind of visit, steps that bind themselves, by their last window, or since the bound lies between two; and steps that those behind bind.
func TestDrawnKinds(t *testing.T) {
	type kind struct {
		visit api.VisitKind
		binds string
	}
	seen := map[kind]int{}
	for _, d := range drawnPlans(141, 24000) {
		latest := Latest(d.p, d.x)
		l := stops(d.p, d.x.Vehicle, d.visits)
		for i, v := range d.visits {
			windows := l[i+1].Windows
			bound := latest[i+2] - l[i+1].Service - d.p.Time.Cells[l[i+1].Place*d.p.Time.N+l[i+2].Place]
			switch {
			case bound > windows[len(windows)-1].To:
				seen[kind{v.Kind, "its last window"}]++
			case latest[i+1] < bound:
				seen[kind{v.Kind, "between two windows"}]++
			default:
				seen[kind{v.Kind, "those behind"}]++
			}
		}
	}
	for _, v := range []api.VisitKind{api.AtJob, api.AtPickup, api.AtDelivery, api.AtBreak} {
		for _, binds := range []string{"its last window", "between two windows", "those behind"} {
			if n := seen[kind{v, binds}]; n < 100 {
				t.Errorf("of kind %d, bound by %s, only %d steps were drawn", v, binds, n)
			}
		}
	}
}

// TestLeavesLater: what plan.Of says of a shift that begins later, or earlier: up to the start's Latest there is a plan, which ends as was told.
func TestLeavesLater(t *testing.T) {
	compared := 0
	for _, d := range drawnPlans(142, 3000) {
		cars := slices.Clone(d.p.Vehicles)
		q := d.p
		q.Vehicles = cars
		for from := 0; from <= cars[d.x.Vehicle].Shift.To; from++ {
			cars[d.x.Vehicle].Shift.From = from
			x, e := plan.Of(q, d.x.Vehicle, d.visits)
			end, there := Ends(d.p, d.x, 0, from)
			if (e == api.OK) != there || there && x.Steps[len(x.Steps)-1].Arrival != end {
				t.Fatalf("P14.2: %+v\n%+v: Ends(0, %d): %d, %v, plan.Of %+v, %d", d.p, d.x, from, end, there, x, e)
			}
			compared++
		}
	}
	if compared < 10000 {
		t.Errorf("only %d were compared", compared)
	}
}

// TestMatrixOfTimes: distances don't count.
func TestMatrixOfTimes(t *testing.T) {
	p := town()
	x := planned(t, p, tour()...)
	want := Latest(p, x)
	p.Dist = square(4, 0, 1, 2, 3, 4, 0, 5, 6, 7, 8, 0, 9, 10, 11, 12, 0)
	late(t, "other distances", p, planned(t, p, tour()...), want...)
}
