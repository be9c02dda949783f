package reply_test

import (
	"math/rand"
	"slices"
	"testing"

	"haulier/api"
	"haulier/reply"
	"haulier/show"
)

// TestExamples: the chapter's, and an answer in which all stands.
func TestExamples(t *testing.T) {
	for _, c := range []struct {
		r    api.Reply
		want string
	}{
		{faulty(api.ErrEnd, 3, ""), `{"status":"error","code":21,"at":3,"path":""}`},
		{faulty(api.ErrSize, 0, "vehicles.0.capacity"), `{"status":"error","code":43,"at":0,"path":"vehicles.0.capacity"}`},
		{faulty(-1, -2, "\"\u20ac\n"), `{"status":"error","code":-1,"at":-2,"path":"\"` + "\u20ac" + `\u000a"}`},
		{api.Reply{}, zeroText},
		{api.Reply{Plans: []api.Plan{}, Left: []api.Task{}}, zeroText},
		{tour(), tourText},
	} {
		got, e := show.Print(reply.Tree(c.r))
		if e != api.OK || string(got) != c.want {
			t.Errorf("P22.1: %+v: %d, %s, want %s", c.r, e, got, c.want)
		}
	}
}

// TestTreeAsParsed: each value stands where json.Parse puts it, and so does what it has.
func TestTreeAsParsed(t *testing.T) {
	for _, c := range []struct {
		r    api.Reply
		text string
	}{
		{faulty(api.ErrEnd, 3, "a.0"), `{"status":"error","code":21,"at":3,"path":"a.0"}`},
		{api.Reply{}, zeroText},
		{tour(), tourText},
	} {
		if got, want := reply.Tree(c.r), tree(t, c.text); !alike(got, want) {
			t.Errorf("P22.1: %s: %+v, want %+v", c.text, got, want)
		}
	}
}

// TestTreeByHand: of a fault, value by value.
func TestTreeByHand(t *testing.T) {
	want := api.Tree{
		{Kind: api.String, Text: "error"},
		{Kind: api.Number, Num: 23},
		{Kind: api.Number, Num: -1 << 63},
		{Kind: api.String, Text: "\xff\xed\xa0\x80"},
		{Kind: api.Object, Names: []string{"status", "code", "at", "path"}, Kids: []int{0, 1, 2, 3}},
	}
	if got := reply.Tree(faulty(api.ErrUTF, -1<<63, "\xff\xed\xa0\x80")); !alike(got, want) {
		t.Errorf("P22.1: %+v, want %+v", got, want)
	}
}

// TestTreesDrawn: each is right by the document's words, and as its text is parsed, where it has one.
func TestTreesDrawn(t *testing.T) {
	parsed := 0
	for _, r := range append(replies(), halves()...) {
		got := reply.Tree(r)
		if !anAnswer(got) {
			t.Errorf("P22.1: %+v: %+v", r, got)
		}
		text, e := show.Print(got)
		if e != api.OK {
			continue
		}
		parsed++
		if want := tree(t, string(text)); !alike(got, want) {
			t.Errorf("P22.1: %+v: %+v, want %+v", r, got, want)
		}
		if want := written(r); r.Fault.Code == api.OK && string(text) != want {
			t.Errorf("P22.1: %+v: %s, want %s", r, text, want)
		}
	}
	if parsed < 50 {
		t.Errorf("only %d of these trees can be written", parsed)
	}
}

// figuresOf: all figures of an answer without a fault.
func figuresOf(r *api.Reply) []*int {
	s := &r.Sums
	l := []*int{&s.Routes, &s.Value, &s.Cost, &s.Time, &s.Dist, &s.Wait, &s.Service, &s.Left}
	for i := range r.Plans {
		p := &r.Plans[i]
		l = append(l, &p.Vehicle, &p.Cost, &p.Time, &p.Dist, &p.Wait, &p.Service)
		for k := range p.Steps {
			x := &p.Steps[k]
			l = append(l, &x.Visit.Item, &x.Place, &x.Arrival, &x.Wait, &x.Service, &x.Time, &x.Dist)
			for d := range x.Load {
				l = append(l, &x.Load[d])
			}
		}
	}
	for i := range r.Left {
		l = append(l, &r.Left[i].Item)
	}
	return l
}

// TestEachFigure: each number of an answer stands in its tree as it is, whether it fits or not, at one place of its own.
func TestEachFigure(t *testing.T) {
	base := tour()
	was := reply.Tree(base)
	for i, figure := range figuresOf(&base) {
		kept := *figure
		for _, n := range ends() {
			if n == kept {
				continue
			}
			*figure = n
			changed := differences(was, reply.Tree(base))
			if len(changed) != 1 || changed[0].Kind != api.Number || changed[0].Num != n {
				t.Errorf("P22.1: figure %d is %d: %+v", i, n, changed)
			}
		}
		*figure = kept
	}
	was = reply.Tree(faulty(7, 7, "x"))
	for _, n := range ends() {
		for _, r := range []api.Reply{faulty(7, n, "x"), faulty(api.Errno(n), 7, "x")} {
			changed := differences(was, reply.Tree(r))
			if n != 0 && (len(changed) != 1 || changed[0].Kind != api.Number || changed[0].Num != n) {
				t.Errorf("P22.1: %+v: %+v", r, changed)
			}
		}
	}
}

// differences: the values of the second one that the first one hasn't at their places.
func differences(a, b api.Tree) []api.Value {
	var l []api.Value
	for i, v := range b {
		if i >= len(a) || !alike(a[i], v) {
			l = append(l, v)
		}
	}
	return l
}

// TestKinds: the type of each kind of visit, that of all other ones, and those of tasks.
func TestKinds(t *testing.T) {
	for k, want := range map[api.VisitKind]string{
		api.AtJob: "job", api.AtPickup: "pickup", api.AtDelivery: "delivery", api.AtBreak: "break", api.AtStart: "start", api.AtEnd: "end",
		0: "?", 7: "?", -1: "?", 100: "?", 1 << 32: "?", 1<<32 + 1: "?", -1 << 63: "?", 1<<63 - 1: "?",
	} {
		r := api.Reply{Plans: []api.Plan{{Steps: []api.Step{{Visit: api.Visit{Kind: k}}}}}}
		got := reply.Tree(r)
		at := slices.IndexFunc(got, func(v api.Value) bool { return slices.Contains(v.Names, "type") })
		if at < 0 || got[got[at].Kids[0]].Text != want || got[got[at].Kids[0]].Kind != api.String {
			t.Errorf("P22.1: kind %d: %+v, want %s", k, got, want)
		}
	}
}

// TestFaultAlone: with a fault nothing else is told; without one nothing of it.
func TestFaultAlone(t *testing.T) {
	r := tour()
	r.Fault = api.Fault{Code: api.ErrTime, At: 7, Path: "x"}
	if got, want := reply.Tree(r), reply.Tree(faulty(api.ErrTime, 7, "x")); !alike(got, want) {
		t.Errorf("P22.1: %+v, want %+v", got, want)
	}
	r.Fault.Code = api.OK
	if got, want := reply.Tree(r), tree(t, tourText); !alike(got, want) {
		t.Errorf("P22.1: %+v, want %+v", got, want)
	}
	rnd := rand.New(rand.NewSource(223))
	for range 50 {
		r := drawnReply(rnd)
		if got, want := len(reply.Tree(r)) == 5, r.Fault.Code != api.OK; got != want {
			t.Errorf("P22.1: %+v: an error %t", r, got)
		}
	}
}
