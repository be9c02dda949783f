package judge_test

import (
	"math"
	"math/rand"
	"reflect"
	"slices"
	"testing"

	"haulier/api"
	"haulier/judge"
	"haulier/plan"
)

// audits: does Audit answer this?
func audits(t *testing.T, what string, p api.Problem, x api.Plan, want api.Errno) {
	t.Helper()
	lawful(t, p)
	if e := judge.Audit(p, x); e != want {
		t.Errorf("P20.3: %s: Audit(%+v): %d, want %d", what, x, e, want)
	}
}

// planOf: the plan of a vehicle and its visits, breaks among them, which must be one.
func planOf(t *testing.T, p api.Problem, vehicle int, visits ...api.Visit) api.Plan {
	t.Helper()
	x, e := plan.Of(p, vehicle, visits)
	if e != api.OK {
		t.Fatalf("the test's own visits %v are no plan: %d", visits, e)
	}
	return x
}

// TestAuditRight: plans by hand, and plans of all lists of visits for which plan.Of has one.
func TestAuditRight(t *testing.T) {
	p := town()
	for _, x := range planned4() {
		audits(t, "by hand", p, x, api.OK)
	}
	audits(t, "without tasks", p, planOf(t, p, 2), api.OK)
	audits(t, "breaks alone", p, planOf(t, p, 0, pause(0), pause(1)), api.OK)
	// Fit would set the breaks ahead of all.
	audits(t, "breaks elsewhere", p, planOf(t, p, 0, job(0), pause(0), job(1), pause(1)), api.OK)
	for _, l := range settings(list(pickup(0), job(1), delivery(0)), 2) {
		audits(t, "breaks anywhere", p, planOf(t, p, 0, l...), api.OK)
	}
	r := rand.New(rand.NewSource(204))
	for range 1500 {
		p := drawnProblem(r)
		all, _ := judge.Plans(p, drawnRight(r, p))
		for _, x := range all {
			audits(t, "of Plans", p, x, api.OK)
		}
	}
}

// TestAuditEmpty: fewer than two steps, whatever else is wrong.
func TestAuditEmpty(t *testing.T) {
	for _, vehicle := range []int{math.MinInt, -1, 0, 2, 4, math.MaxInt} {
		x := api.Plan{Vehicle: vehicle}
		audits(t, "no step", town(), x, api.ErrEmpty)
		x.Steps = []api.Step{}
		audits(t, "no step", town(), x, api.ErrEmpty)
		for _, v := range list(start(), end(), job(0), pause(9), api.Visit{}) {
			x.Steps = []api.Step{{Visit: v, Place: 2, Arrival: 1, Load: []int{0, 0}}}
			audits(t, "one step", town(), x, api.ErrEmpty)
		}
	}
	audits(t, "the zero plan", line(), api.Plan{}, api.ErrEmpty)
	audits(t, "the zero plan", api.Problem{Time: square(1, 0), Dist: square(1, 0)}, api.Plan{}, api.ErrEmpty)
}

// steps: a plan of these visits between a start and an end, without figures.
func steps(vehicle int, visits ...api.Visit) api.Plan {
	x := api.Plan{Vehicle: vehicle, Steps: []api.Step{{Visit: start()}}}
	for _, v := range visits {
		x.Steps = append(x.Steps, api.Step{Visit: v})
	}
	x.Steps = append(x.Steps, api.Step{Visit: end()})
	return x
}

// TestAuditOf: the errors of plan.Of, ahead of all figures.
func TestAuditOf(t *testing.T) {
	p, wrong := strained()
	audits(t, "nothing wrong but the figures", p, steps(1, pause(0), job(0)), api.ErrRange)
	audits(t, "no such vehicle", p, steps(4, job(0)), api.ErrVehicle)
	audits(t, "no such vehicle", p, steps(-1), api.ErrVehicle)
	audits(t, "no such vehicle", p, steps(math.MinInt, job(9)), api.ErrVehicle)
	for e, l := range wrong {
		for _, x := range l {
			if e == api.ErrVisit {
				audits(t, "visits", p, steps(1, x.Visits...), api.ErrVisit)
			}
			if e == api.ErrVisit || e == api.ErrBreak {
				continue
			}
			audits(t, "without its break", p, steps(1, x.Visits...), api.ErrBreak)
			audits(t, "its break behind", p, steps(1, append(x.Visits, pause(0))...), e)
			audits(t, "its break ahead", p, steps(1, append(list(pause(0)), x.Visits...)...), e)
		}
	}
	p = town()
	audits(t, "breaks lack", p, steps(0), api.ErrBreak)
	audits(t, "a break lacks", p, steps(0, job(0), pause(0)), api.ErrBreak)
	audits(t, "out of order", p, steps(0, pause(1), pause(0)), api.ErrBreak)
	audits(t, "one too many", p, steps(2, job(0), pause(0)), api.ErrBreak)
	audits(t, "a start in between", p, steps(2, start(), job(0)), api.ErrVisit)
	audits(t, "an end in between", p, steps(2, job(0), end()), api.ErrVisit)
	audits(t, "its break is in time", p, steps(1, job(0), pause(0)), api.ErrRange)
	p.Jobs[0].Stop.Service = 70
	audits(t, "its break is too late", p, steps(1, job(0), pause(0)), api.ErrTime)
}

// TestAuditEnds: the first step and the last one count for nothing in the visits, but must be a start and an end.
func TestAuditEnds(t *testing.T) {
	p := town()
	for _, v := range list(job(0), job(1), end(), pause(0), api.Visit{}, api.Visit{Kind: api.AtStart, Item: 1}, api.Visit{Kind: 99}) {
		x := planned4()[3]
		x.Steps[0].Visit = v
		audits(t, "another start", p, x, api.ErrRange)
	}
	for _, v := range list(job(0), job(1), start(), pause(0), api.Visit{}, api.Visit{Kind: api.AtEnd, Item: 1}, api.Visit{Kind: 99}) {
		x := planned4()[3]
		x.Steps[4].Visit = v
		audits(t, "another end", p, x, api.ErrRange)
	}
	x := planned4()[3]
	x.Steps = x.Steps[:4]
	audits(t, "the end lacks", p, x, api.ErrVisit)
	x = planned4()[1]
	x.Steps = x.Steps[:3]
	audits(t, "the end lacks", p, x, api.ErrRange)
	x = planned4()[3]
	x.Steps = x.Steps[1:]
	audits(t, "the start lacks", p, x, api.ErrVisit)
	x = planned4()[2]
	x.Steps = []api.Step{x.Steps[0], x.Steps[3]}
	audits(t, "nothing between", p, x, api.ErrRange)
}

// numbers: pointers to all numbers of a plan but those of its steps' loads.
func numbers(x *api.Plan) []*int {
	l := fields(reflect.ValueOf(x).Elem())
	for i := range x.Steps {
		l = append(l, fields(reflect.ValueOf(&x.Steps[i]).Elem())...)
	}
	return l
}

// fields: pointers to all ints of a struct, lists left out; kinds are no ints here.
func fields(v reflect.Value) []*int {
	var l []*int
	for i := range v.NumField() {
		switch f := v.Field(i); f.Kind() {
		case reflect.Struct:
			l = append(l, fields(f)...)
		case reflect.Int:
			if n, is := f.Addr().Interface().(*int); is {
				l = append(l, n)
			}
		}
	}
	return l
}

// changes: the plan with each one thing changed: each number, by this and by that, each kind of visit, each load, longer, shorter, other; steps less, more, swapped.
func changes(x api.Plan) []api.Plan {
	var all []api.Plan
	put := func(change func(x *api.Plan)) {
		y := full(x)
		change(&y)
		all = append(all, y)
	}
	for i := range numbers(&x) {
		for _, by := range []int{-1, 1, 256, 1 << 32, math.MinInt} {
			put(func(x *api.Plan) { *numbers(x)[i] += by })
		}
	}
	for i, s := range x.Steps {
		for kind := range api.VisitKind(8) {
			if kind != s.Visit.Kind {
				put(func(x *api.Plan) { x.Steps[i].Visit.Kind = kind })
			}
		}
		for d := range s.Load {
			put(func(x *api.Plan) { x.Steps[i].Load[d]++ })
			put(func(x *api.Plan) { x.Steps[i].Load[d]-- })
			put(func(x *api.Plan) { x.Steps[i].Load = x.Steps[i].Load[:d] })
		}
		put(func(x *api.Plan) { x.Steps[i].Load = append(x.Steps[i].Load, 0) })
		put(func(x *api.Plan) { x.Steps = slices.Delete(x.Steps, i, i+1) })
		put(func(x *api.Plan) { x.Steps = slices.Insert(x.Steps, i, x.Steps[i]) })
		put(func(x *api.Plan) { x.Steps = x.Steps[:i] })
	}
	put(func(x *api.Plan) { x.Steps = append(x.Steps, api.Step{}) })
	put(func(x *api.Plan) { x.Steps = append([]api.Step{{}}, x.Steps...) })
	return all
}

// TestChanges: of a plan in which any one thing was changed Same and Audit tell it; where its vehicle and visits are as they were, by ErrRange.
func TestChanges(t *testing.T) {
	p := town()
	for _, x := range append(planned4(), planOf(t, p, 2), planOf(t, p, 0, job(0), pause(0), pause(1), job(2))) {
		for _, y := range changes(x) {
			if alike(x, y) {
				t.Fatalf("the test's own change is none: %+v", y)
			}
			if judge.Same(x, y) || judge.Same(y, x) {
				t.Errorf("P20.3: Same(%+v, %+v)", x, y)
			}
			e := judge.Audit(p, y)
			if e == api.OK {
				t.Errorf("P20.3: Audit(%+v): 0", y)
			}
			if e != api.ErrRange && visited(x, y) {
				t.Errorf("P20.3: Audit(%+v): %d, want ErrRange", y, e)
			}
		}
	}
	p = line()
	for _, y := range changes(planOf(t, p, 0, job(0))) {
		if judge.Audit(p, y) == api.OK {
			t.Errorf("P20.3: Audit(%+v): 0", y)
		}
	}
}

// visited: have both plans one vehicle, and the same visits but for the first and the last step?
func visited(a, b api.Plan) bool {
	return a.Vehicle == b.Vehicle && len(a.Steps) == len(b.Steps) &&
		slices.EqualFunc(a.Steps[1:len(a.Steps)-1], b.Steps[1:len(b.Steps)-1], func(s, t api.Step) bool { return s.Visit == t.Visit })
}

// TestSame: each plan is the same as its copy, with nil in the stead of empty lists too, and as no other one.
func TestSame(t *testing.T) {
	p := town()
	l := append(planned4(), api.Plan{}, api.Plan{Vehicle: 1}, steps(0), steps(0, job(0)), steps(0, job(1)), planOf(t, p, 2), planOf(t, line(), 0, job(0)))
	for i, a := range l {
		for k, b := range l {
			if got := judge.Same(a, full(b)); got != (i == k) {
				t.Errorf("P20.3: Same(%+v, %+v): %v", a, b, got)
			}
		}
	}
	if !judge.Same(api.Plan{}, api.Plan{Steps: []api.Step{}}) || !judge.Same(api.Plan{Steps: []api.Step{}}, api.Plan{}) {
		t.Error("R5: no steps: nil and an empty list aren't the same")
	}
	none, empty := steps(0, job(0)), steps(0, job(0))
	for i := range empty.Steps {
		empty.Steps[i].Load = []int{}
	}
	if !judge.Same(none, empty) || !judge.Same(empty, none) {
		t.Error("R5: loads: nil and an empty list aren't the same")
	}
}

// TestSameDrawn: of drawn plans, against a comparison of all fields.
func TestSameDrawn(t *testing.T) {
	r := rand.New(rand.NewSource(205))
	same := 0
	for range 3000 {
		p := drawnProblem(r)
		s := drawnRight(r, p)
		a, _ := judge.Plans(p, s)
		b, _ := judge.Plans(p, drawnRight(r, p))
		for _, x := range a {
			for _, y := range append(b, a...) {
				want := alike(x, y)
				if got := judge.Same(x, y); got != want {
					t.Errorf("P20.3: Same(%+v, %+v): %v", x, y, got)
				}
				if want && x.Vehicle != y.Vehicle {
					t.Fatal("alike doesn't look at vehicles")
				}
				if want {
					same++
				}
			}
		}
	}
	if same < 1000 {
		t.Errorf("only %d drawn plans are the same", same)
	}
}

// TestAuditDrawn: of drawn visits with figures of their own or of others, against the document's words.
func TestAuditDrawn(t *testing.T) {
	r := rand.New(rand.NewSource(206))
	met := map[api.Errno]int{}
	for range 12000 {
		p := drawnProblem(r)
		s := drawnRight(r, p)
		if len(s.Routes) == 0 {
			continue
		}
		x := s.Routes[r.Intn(len(s.Routes))]
		all := settings(x.Visits, len(p.Vehicles[x.Vehicle].Breaks))
		visits := all[r.Intn(len(all))]
		if r.Intn(3) == 0 {
			visits = spoilt(r, routes(route(x.Vehicle, visits...))).Routes[0].Visits
		}
		want, e := planned(p, x.Vehicle, visits)
		y := want
		if e != api.OK {
			y = steps(x.Vehicle, visits...)
		} else if r.Intn(2) == 0 {
			// The numbers behind the first one, the vehicle's, are the plan's figures.
			y = full(want)
			l := numbers(&y)
			*l[1+r.Intn(5)] += 1 - 2*r.Intn(2)
			e = api.ErrRange
		}
		audits(t, "drawn", p, y, e)
		met[e]++
	}
	t.Logf("errors: %v", met)
	for _, e := range []api.Errno{api.OK, api.ErrRange, api.ErrVisit, api.ErrBreak, api.ErrTime} {
		if met[e] < 50 {
			t.Errorf("error %d came only %d times", e, met[e])
		}
	}
}
