package reply

import "haulier/api"

// writer puts values into a tree, each behind its kids. What puts one answers its place.
type writer struct{ tree api.Tree }

func (w *writer) put(v api.Value) int {
	w.tree = append(w.tree, v)
	return len(w.tree) - 1
}

func (w *writer) truth(b bool) int { return w.put(api.Value{Kind: api.Bool, Truth: b}) }

func (w *writer) number(n int) int { return w.put(api.Value{Kind: api.Number, Num: n}) }

func (w *writer) text(s string) int { return w.put(api.Value{Kind: api.String, Text: s}) }

// list puts the items, each by this function, then their list.
func list[T any](w *writer, items []T, put func(T) int) int {
	v := api.Value{Kind: api.List}
	for _, x := range items {
		v.Kids = append(v.Kids, put(x))
	}
	return w.put(v)
}

// pair is a name of an object, and the place of its value.
type pair struct {
	name string
	kid  int
}

// object puts the object of these pairs. Their values stand in the tree already, in their order, for Go makes a call's arguments from the left to the right.
func (w *writer) object(pairs ...pair) int {
	v := api.Value{Kind: api.Object}
	for _, p := range pairs {
		v.Names = append(v.Names, p.name)
		v.Kids = append(v.Kids, p.kid)
	}
	return w.put(v)
}

func (w *writer) reply(r api.Reply) int {
	if r.Fault.Code != api.OK {
		return w.fault(r.Fault)
	}
	return w.object(
		pair{"status", w.text(okStatus)},
		pair{"optimal", w.truth(r.Optimal)},
		pair{"summary", w.sums(r.Sums)},
		pair{"routes", list(w, r.Plans, w.plan)},
		pair{"unassigned", list(w, r.Left, w.task)},
	)
}

func (w *writer) fault(f api.Fault) int {
	return w.object(
		pair{"status", w.text(errorStatus)},
		pair{"code", w.number(int(f.Code))},
		pair{"at", w.number(f.At)},
		pair{"path", w.text(f.Path)},
	)
}

func (w *writer) sums(s api.Sums) int {
	return w.object(
		pair{"routes", w.number(s.Routes)},
		pair{"value", w.number(s.Value)},
		pair{"cost", w.number(s.Cost)},
		pair{"time", w.number(s.Time)},
		pair{"dist", w.number(s.Dist)},
		pair{"wait", w.number(s.Wait)},
		pair{"service", w.number(s.Service)},
		pair{"left", w.number(s.Left)},
	)
}

func (w *writer) plan(p api.Plan) int {
	return w.object(
		pair{"vehicle", w.number(p.Vehicle)},
		pair{"cost", w.number(p.Cost)},
		pair{"time", w.number(p.Time)},
		pair{"dist", w.number(p.Dist)},
		pair{"wait", w.number(p.Wait)},
		pair{"service", w.number(p.Service)},
		pair{"steps", list(w, p.Steps, w.step)},
	)
}

func (w *writer) step(s api.Step) int {
	return w.object(
		pair{"type", w.text(kindName(s.Visit.Kind))},
		pair{"item", w.number(s.Visit.Item)},
		pair{"place", w.number(s.Place)},
		pair{"arrival", w.number(s.Arrival)},
		pair{"wait", w.number(s.Wait)},
		pair{"service", w.number(s.Service)},
		pair{"load", list(w, s.Load, w.number)},
		pair{"time", w.number(s.Time)},
		pair{"dist", w.number(s.Dist)},
	)
}

func (w *writer) task(t api.Task) int {
	return w.object(
		pair{"type", w.text(taskName(t))},
		pair{"item", w.number(t.Item)},
	)
}
