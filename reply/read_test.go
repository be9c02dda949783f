package reply_test

import (
	"math/rand"
	"slices"
	"strings"
	"testing"

	"haulier/api"
	"haulier/reply"
)

// TestReadOfTree: an answer is read again as it was.
func TestReadOfTree(t *testing.T) {
	for _, r := range replies() {
		if got, ok := reply.Read(reply.Tree(r)); !ok || !alike(got, r) {
			t.Errorf("P22.2: %+v became %+v, %t", r, got, ok)
		}
	}
}

// TestReadOfText: the same from texts, blanks or not.
func TestReadOfText(t *testing.T) {
	for _, c := range []struct {
		text string
		want api.Reply
	}{
		{zeroText, api.Reply{}},
		{tourText, tour()},
		{strings.NewReplacer(",", " ,\n", ":", " : ").Replace(tourText), tour()},
		{strings.Replace(zeroText, "false", "true", 1), api.Reply{Optimal: true}},
		{`{"status":"error","code":21,"at":3,"path":""}`, faulty(api.ErrEnd, 3, "")},
		{`{"status":"error","code":1,"at":-3,"path":"\u0061.0"}`, faulty(1, -3, "a.0")},
	} {
		if got, ok := reply.Read(tree(t, c.text)); !ok || !alike(got, c.want) {
			t.Errorf("P22.1: %s: %+v, %t, want %+v", c.text, got, ok, c.want)
		}
	}
}

// TestReadFaultAlone: of an answer that has a fault the fault is read, and nothing else.
func TestReadFaultAlone(t *testing.T) {
	r := tour()
	r.Fault = api.Fault{Code: api.ErrTime, At: 7, Path: "x"}
	if got, ok := reply.Read(reply.Tree(r)); !ok || !alike(got, faulty(api.ErrTime, 7, "x")) {
		t.Errorf("P22.2: %+v, %t", got, ok)
	}
}

// TestReadOtherKinds: a visit of another kind than those listed: the tree is that of an answer, all of which is as it was but for that kind, which is none of those listed.
func TestReadOtherKinds(t *testing.T) {
	for _, k := range []api.VisitKind{-1, 0, 7, 1 << 40} {
		r := tour()
		r.Plans[0].Steps[3].Visit.Kind = k
		v := reply.Tree(r)
		got, ok := reply.Read(v)
		if !ok || !alike(reply.Tree(got), v) {
			t.Fatalf("P22.1: kind %d: %+v, %t", k, got, ok)
		}
		read := &got.Plans[0].Steps[3].Visit.Kind
		if *read >= api.AtJob && *read <= api.AtEnd {
			t.Errorf("P22.1: kind %d is read as %d", k, *read)
		}
		*read = k
		if !alike(got, r) {
			t.Errorf("P22.1: %+v became %+v", r, got)
		}
	}
}

// unread: this text tells no answer.
func unread(t *testing.T, text string) {
	t.Helper()
	if got, ok := reply.Read(tree(t, text)); ok {
		t.Errorf("P22.1: %s is read: %+v", text, got)
	}
}

// TestNoAnswers: texts that tell none.
func TestNoAnswers(t *testing.T) {
	for _, text := range []string{
		"null", "true", "false", "0", "7", `""`, `"ok"`, `"error"`, "[]", "{}", `["ok"]`, `[["ok",false,[],[],[]]]`,
		`{"status":"ok"}`, `{"status":"error"}`,
		`{"status":"error","code":0,"at":3,"path":""}`,
		`{"status":"error","code":0,"at":0,"path":""}`,
		`{"status":"ok","code":21,"at":3,"path":""}`,
		`{"status":"Error","code":21,"at":3,"path":""}`,
		`{"code":21,"status":"error","at":3,"path":""}`,
		`{"status":"error","code":21,"path":"","at":3}`,
		`{"status":"error","code":21,"at":3}`,
		`{"status":"error","code":21,"at":3,"path":"","more":1}`,
		`{"status":"error","code":21,"at":3,"path":null}`,
		`{"status":"error","code":"21","at":3,"path":""}`,
		`{"status":"error","code":21,"at":[3],"path":""}`,
		`{"status":"error","code":21,"at":3,"way":""}`,
		`{"status":null,"code":21,"at":3,"path":""}`,
		`["error",21,3,""]`,
		`[{"status":"error","code":21,"at":3,"path":""}]`,
		`{"reply":{"status":"error","code":21,"at":3,"path":""}}`,
	} {
		unread(t, text)
	}
}

// TestChangedTexts: a word or two of a whole answer's text changed, so that it tells none.
func TestChangedTexts(t *testing.T) {
	for _, c := range [][2]string{
		{`"ok"`, `"error"`}, {`"ok"`, `"fine"`}, {`"ok"`, `null`}, {`"optimal":true`, `"optimal":1`}, {`"optimal":true`, `"optimal":null`}, {`"optimal":true,`, ``},
		{`"job"`, `"jobs"`}, {`"job"`, `"Job"`}, {`"job"`, `""`}, {`"job"`, `"shipment"`}, {`"job"`, `1`}, {`"break"`, `null`},
		{`"type":"start",`, ``}, {`"type":"start"`, `"kind":"start"`}, {`"type":"start","item":300`, `"item":300,"type":"start"`},
		{`"load":[307,308,309]`, `"load":307`}, {`"load":[307,308,309]`, `"load":null`}, {`"load":[307,308,309]`, `"load":{"a":307}`}, {`308`, `"308"`}, {`308`, `[308]`}, {`308`, `null`},
		{`"load":[]`, `"load":{}`}, {`"load":[],`, ``}, {`"steps":[]`, `"steps":null`}, {`"steps":[]`, `"steps":{}`}, {`,"steps":[]`, ``}, {`"steps":[]`, `"steps":[[]]`}, {`"steps":[]`, `"steps":[{}]`},
		{`"dist":416`, `"dist":416,"more":0`}, {`"dist":416`, `"far":416`}, {`,"dist":416`, ``}, {`"time":415,"dist":416`, `"dist":416,"time":415`},
		{`"left":108`, `"left":"108"`}, {`"left":108`, `"left":true`}, {`"left":108`, `"left":null`}, {`,"left":108`, ``}, {`"left":108`, `"left":108,"more":1`}, {`"routes":101`, `"Routes":101`},
		{`"value":102,"cost":103`, `"cost":103,"value":102`}, {`"vehicle":201,`, ``}, {`"vehicle":201`, `"vehicle":{}`}, {`"cost":202,"time":203`, `"time":203,"cost":202`},
		{`"unassigned":[`, `"unassigned":[1,`}, {`"unassigned":[`, `"unassigned":[{},`}, {`"unassigned":[`, `"left":[`}, {`"unassigned":[`, `"unassigned":[{"type":"pickup","item":1},`},
		{`"unassigned":[`, `"unassigned":[{"type":"?","item":1},`}, {`"unassigned":[`, `"unassigned":[{"item":1,"type":"job"},`}, {`"unassigned":[`, `"unassigned":[{"type":"job"},`},
		{`"unassigned":[`, `"unassigned":[{"type":"job","item":1,"place":2},`}, {`"unassigned":[`, `"unassigned":[null,`}, {`"routes":[`, `"routes":[null,`}, {`"routes":[`, `"routes":[[],`},
	} {
		text := strings.Replace(tourText, c[0], c[1], 1)
		if text == tourText {
			t.Fatalf("%s isn't there", c[0])
		}
		unread(t, text)
	}
}

// TestOtherOrders: values that stand elsewhere than json.Parse puts them, or that are kids twice, or none, are no answer's tree, though they may tell the same.
func TestOtherOrders(t *testing.T) {
	for _, base := range []api.Tree{reply.Tree(faulty(api.ErrEnd, 3, "x")), tree(t, zeroText), tree(t, tourText)} {
		for i := range base {
			for k := range i {
				v := swapped(base, i, k)
				if got, ok := reply.Read(v); ok {
					t.Fatalf("P22.1: values %d and %d at each other's places: %+v", k, i, got)
				}
				if i > 40 && k < i-3 {
					continue
				}
				v = full(base)
				for n, kid := range v[i].Kids {
					if kid == k {
						v[i].Kids[n] = (k + 1) % i
						if got, ok := reply.Read(v); ok {
							t.Fatalf("P22.1: value %d is a kid no more: %+v", k, got)
						}
					}
				}
			}
			v := slices.Insert(full(base), i, api.Value{Kind: api.Number})
			for n := range v {
				for k, kid := range v[n].Kids {
					if kid >= i {
						v[n].Kids[k]++
					}
				}
			}
			if got, ok := reply.Read(v); ok {
				t.Fatalf("P22.1: a value at %d that is no kid: %+v", i, got)
			}
		}
		if got, ok := reply.Read(append(full(base), full(base)...)); ok {
			t.Fatalf("P22.1: twice: %+v", got)
		}
	}
}

// swapped: a tree that tells the same, two values of which have changed their places.
func swapped(t api.Tree, i, k int) api.Tree {
	t = full(t)
	t[i], t[k] = t[k], t[i]
	for _, v := range t {
		for n, kid := range v.Kids {
			switch kid {
			case i:
				v.Kids[n] = k
			case k:
				v.Kids[n] = i
			}
		}
	}
	return t
}

// TestEachValue: a value of an answer's tree that has something that it doesn't use, or that is of another kind: it is none.
func TestEachValue(t *testing.T) {
	for _, base := range []api.Tree{reply.Tree(faulty(api.ErrEnd, 3, "x")), tree(t, zeroText), tree(t, tourText)} {
		for i := range base {
			for n, change := range []func(v *api.Value){
				func(v *api.Value) { v.Truth = !v.Truth },
				func(v *api.Value) { v.Num++ },
				func(v *api.Value) { v.Text += "x" },
				func(v *api.Value) { v.Names = append(v.Names, "") },
				func(v *api.Value) { v.Kids = append(v.Kids, 0) },
				func(v *api.Value) { v.Kids = append(v.Kids, i) },
				func(v *api.Value) { v.Kind++ },
				func(v *api.Value) { v.Kind-- },
				func(v *api.Value) { v.Kind = 0 },
			} {
				v := full(base)
				change(&v[i])
				// A truth, a figure and a path may be others.
				want := n == 0 && base[i].Kind == api.Bool || n == 1 && base[i].Kind == api.Number || n == 2 && base[i].Text == "x"
				if got, ok := reply.Read(v); ok != want || ok && !alike(reply.Tree(got), v) {
					t.Errorf("P22.1: value %d of %d, change %d: %+v, %t, want %t", i, len(base), n, got, ok, want)
				}
			}
		}
	}
}

// TestNothingElse: the tree of an answer is that of the answer that is read; and no other tree is read.
func TestNothingElse(t *testing.T) {
	read, not := 0, 0
	for _, v := range trees(t) {
		got, ok := reply.Read(v)
		if want := anAnswer(v); ok != want {
			t.Errorf("P22.1: %+v is read: %t, want %t", v, ok, want)
		}
		if !ok {
			not++
			continue
		}
		read++
		if !alike(reply.Tree(got), v) {
			t.Errorf("P22.1: %+v is read as %+v", v, got)
		}
	}
	if read < 350 || not < 300 {
		t.Errorf("only %d trees are read, %d aren't", read, not)
	}
}

// TestSpoiltOften: many small changes to small trees: read or not by the document's words alone.
func TestSpoiltOften(t *testing.T) {
	r := rand.New(rand.NewSource(224))
	small := api.Reply{
		Plans: []api.Plan{{Steps: []api.Step{step(visit(api.AtJob, 1), 2, 3), step(visit(9, 1), 2)}}, {}},
		Left:  []api.Task{{}, {Ship: true}},
	}
	for range 8000 {
		v := reply.Tree(small)
		if r.Intn(3) == 0 {
			v = reply.Tree(faulty(7, 0, ""))
		}
		for range 1 + r.Intn(2) {
			v = spoilt(r, v)
		}
		got, ok := reply.Read(v)
		if want := anAnswer(v); ok != want || ok && !alike(reply.Tree(got), v) {
			t.Fatalf("P22.1: %+v is read as %+v: %t, want %t", v, got, ok, want)
		}
	}
}
