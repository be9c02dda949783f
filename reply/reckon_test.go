package reply_test

import (
	"slices"
	"strconv"
	"strings"

	"haulier/api"
)

// form is what the document says a value of an answer is: it goes over the values of a tree from one place on, and answers the place behind the value; or -1, if it is another one.
type form func(t api.Tree, at int) int

// scalar: one value without kids that is as it is to be.
func scalar(kind api.JSONKind, right func(v api.Value) bool) form {
	return func(t api.Tree, at int) int {
		if at >= len(t) || t[at].Kind != kind || len(t[at].Kids) > 0 || len(t[at].Names) > 0 || !right(t[at]) {
			return -1
		}
		return at + 1
	}
}

func anyNumber() form {
	return scalar(api.Number, func(v api.Value) bool { return v.Text == "" && !v.Truth })
}

func anyTruth() form {
	return scalar(api.Bool, func(v api.Value) bool { return v.Text == "" && v.Num == 0 })
}

func anyText() form {
	return scalar(api.String, func(v api.Value) bool { return v.Num == 0 && !v.Truth })
}

// word: one of these texts.
func word(texts ...string) form {
	return scalar(api.String, func(v api.Value) bool { return v.Num == 0 && !v.Truth && slices.Contains(texts, v.Text) })
}

// closed: the value whose kids, each from one place up to another, were gone over just ahead.
func closed(t api.Tree, at int, kind api.JSONKind, names []string, kids []int) int {
	if at >= len(t) {
		return -1
	}
	v := t[at]
	if v.Kind != kind || v.Text != "" || v.Num != 0 || v.Truth || !slices.Equal(v.Names, names) || !slices.Equal(v.Kids, kids) {
		return -1
	}
	return at + 1
}

// field is a name and its form.
type field struct {
	name string
	form form
}

func objectOf(fields ...field) form {
	return func(t api.Tree, at int) int {
		var names []string
		var kids []int
		for _, f := range fields {
			if at = f.form(t, at); at < 0 {
				return -1
			}
			names, kids = append(names, f.name), append(kids, at-1)
		}
		return closed(t, at, api.Object, names, kids)
	}
}

// listOf: as many as there are; a value that is of this form is never a list.
func listOf(f form) form {
	return func(t api.Tree, at int) int {
		var kids []int
		for next := f(t, at); next >= 0; next = f(t, at) {
			at = next
			kids = append(kids, at-1)
		}
		return closed(t, at, api.List, nil, kids)
	}
}

// figures: fields that are numbers.
func figures(names string) []field {
	var l []field
	for _, name := range strings.Fields(names) {
		l = append(l, field{name, anyNumber()})
	}
	return l
}

// anAnswer: is this, value by value, the tree of an answer?
func anAnswer(t api.Tree) bool {
	step := objectOf(slices.Concat([]field{{"type", word("job", "pickup", "delivery", "break", "start", "end", "?")}},
		figures("item place arrival wait service"), []field{{"load", listOf(anyNumber())}}, figures("time dist"))...)
	plan := objectOf(append(figures("vehicle cost time dist wait service"), field{"steps", listOf(step)})...)
	task := objectOf(field{"type", word("job", "shipment")}, field{"item", anyNumber()})
	good := objectOf(field{"status", word("ok")}, field{"optimal", anyTruth()}, field{"summary", objectOf(figures("routes value cost time dist wait service left")...)},
		field{"routes", listOf(plan)}, field{"unassigned", listOf(task)})
	code := scalar(api.Number, func(v api.Value) bool { return v.Text == "" && !v.Truth && v.Num != 0 })
	bad := objectOf(field{"status", word("error")}, field{"code", code}, field{"at", anyNumber()}, field{"path", anyText()})
	return len(t) > 0 && (good(t, 0) == len(t) || bad(t, 0) == len(t))
}

// written: an answer's text by the document's words, if its path is plain.
func written(r api.Reply) string {
	if r.Fault.Code != 0 {
		return `{"status":"error",` + counts("code at", int(r.Fault.Code), r.Fault.At) + `,"path":"` + r.Fault.Path + `"}`
	}
	s := r.Sums
	var plans, left []string
	for _, p := range r.Plans {
		var steps []string
		for _, x := range p.Steps {
			steps = append(steps, writtenStep(x))
		}
		plans = append(plans, "{"+counts("vehicle cost time dist wait service", p.Vehicle, p.Cost, p.Time, p.Dist, p.Wait, p.Service)+`,"steps":[`+strings.Join(steps, ",")+"]}")
	}
	for _, x := range r.Left {
		kind := map[bool]string{false: "job", true: "shipment"}[x.Ship]
		left = append(left, `{"type":"`+kind+`",`+counts("item", x.Item)+"}")
	}
	return `{"status":"ok","optimal":` + strconv.FormatBool(r.Optimal) + `,"summary":{` +
		counts("routes value cost time dist wait service left", s.Routes, s.Value, s.Cost, s.Time, s.Dist, s.Wait, s.Service, s.Left) +
		`},"routes":[` + strings.Join(plans, ",") + `],"unassigned":[` + strings.Join(left, ",") + "]}"
}

func writtenStep(x api.Step) string {
	kind := "?"
	switch x.Visit.Kind {
	case api.AtJob:
		kind = "job"
	case api.AtPickup:
		kind = "pickup"
	case api.AtDelivery:
		kind = "delivery"
	case api.AtBreak:
		kind = "break"
	case api.AtStart:
		kind = "start"
	case api.AtEnd:
		kind = "end"
	}
	var load []string
	for _, n := range x.Load {
		load = append(load, strconv.Itoa(n))
	}
	return `{"type":"` + kind + `",` + counts("item place arrival wait service", x.Visit.Item, x.Place, x.Arrival, x.Wait, x.Service) +
		`,"load":[` + strings.Join(load, ",") + "]," + counts("time dist", x.Time, x.Dist) + "}"
}

// counts: names and numbers, pair by pair.
func counts(names string, numbers ...int) string {
	var l []string
	for i, name := range strings.Fields(names) {
		l = append(l, `"`+name+`":`+strconv.Itoa(numbers[i]))
	}
	return strings.Join(l, ",")
}
