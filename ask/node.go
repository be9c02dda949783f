package ask

import (
	"slices"

	"haulier/api"
	"haulier/num"
)

// node is a value of a request, and its path; or a field that isn't there: one without a Kind.
type node struct {
	tree  api.Tree
	value api.Value
	path  string
}

// fail throws a fault: reading ends at the first one, however deep it stands.
func (n node) fail(code api.Errno) { panic(api.Fault{Code: code, Path: n.path}) }

// there: is there a value?
func (n node) there() bool { return n.value.Kind != 0 }

// want: the value must be of this kind.
func (n node) want(kind api.JSONKind) {
	if n.value.Kind != kind {
		n.fail(api.ErrType)
	}
}

// whole: a number within this range; outside of it there is a fault.
func (n node) whole(least, most int, outside api.Errno) int {
	n.want(api.Number)
	if n.value.Num < least || n.value.Num > most {
		n.fail(outside)
	}
	return n.value.Num
}

// number: from least to most.
func (n node) number(least, most int) int { return n.whole(least, most, api.ErrRange) }

// numberOr: a number from 0 to most; another one, if it isn't there.
func (n node) numberOr(most, other int) int {
	if !n.there() {
		return other
	}
	return n.number(0, most)
}

// place: one of so many places.
func (n node) place(places int) int { return n.whole(0, places-1, api.ErrPlace) }

// atMost: the values of a list of at most so many; none of one that isn't there.
func (n node) atMost(most int) []node {
	if !n.there() {
		return nil
	}
	n.want(api.List)
	if len(n.value.Kids) > most {
		n.fail(api.ErrMany)
	}
	return n.kids()
}

// just: the values of a list of so many.
func (n node) just(count int) []node {
	n.want(api.List)
	if len(n.value.Kids) != count {
		n.fail(api.ErrSize)
	}
	return n.kids()
}

// kids: a list's values.
func (n node) kids() []node {
	list := make([]node, len(n.value.Kids))
	for i, kid := range n.value.Kids {
		list[i] = node{tree: n.tree, value: n.tree[kid], path: n.under(num.Text(i))}
	}
	return list
}

// object: the value must be an object none of whose values has another name than these.
func (n node) object(names ...string) {
	n.want(api.Object)
	for _, name := range n.value.Names {
		if !slices.Contains(names, name) {
			n.field(name).fail(api.ErrField)
		}
	}
}

// field: an object's value of this name, which need not be there.
func (n node) field(name string) node {
	f := node{tree: n.tree, path: n.under(name)}
	if i := slices.Index(n.value.Names, name); i >= 0 {
		f.value = n.tree[n.value.Kids[i]]
	}
	return f
}

// must: an object's value of this name.
func (n node) must(name string) node {
	f := n.field(name)
	if !f.there() {
		f.fail(api.ErrMissing)
	}
	return f
}

// under: the path of a value of this one. (Only the whole's path is empty: what stands under an empty name is never gone into.)
func (n node) under(part string) string {
	if n.path == "" {
		return part
	}
	return n.path + "." + part
}

// each: what is made of each value of a list, from the first on.
func each[T any](list []node, made func(n node) T) []T {
	all := make([]T, 0, len(list))
	for _, n := range list {
		all = append(all, made(n))
	}
	return all
}
