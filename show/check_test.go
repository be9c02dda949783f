package show

import (
	"fmt"
	"slices"
	"testing"
	"unicode/utf8"

	"haulier/api"
)

func null() api.Value              { return api.Value{Kind: api.Null} }
func number(n int) api.Value       { return api.Value{Kind: api.Number, Num: n} }
func text(s string) api.Value      { return api.Value{Kind: api.String, Text: s} }
func truly(b bool) api.Value       { return api.Value{Kind: api.Bool, Truth: b} }
func list(kids ...int) api.Value   { return api.Value{Kind: api.List, Kids: kids} }
func names(l ...string) []string   { return l }
func tree(l ...api.Value) api.Tree { return l }

func object(names []string, kids ...int) api.Value {
	return api.Value{Kind: api.Object, Names: names, Kids: kids}
}

// numbers: that many of them, and nothing that joins them.
func numbers(n int) api.Tree {
	var t api.Tree
	for i := range n {
		t = append(t, number(i))
	}
	return t
}

// flat: a tree of that many values: a list of numbers.
func flat(n int) api.Tree {
	t := numbers(n - 1)
	whole := list()
	for i := range t {
		whole.Kids = append(whole.Kids, i)
	}
	return append(t, whole)
}

// nested: a value within that many lists and objects, one in the other.
func nested(n int, inmost api.Value) api.Tree {
	t := tree(inmost)
	for i := range n {
		if i%2 == 0 {
			t = append(t, list(i))
		} else {
			t = append(t, object(names("a"), i))
		}
	}
	return t
}

type checked struct {
	what string
	tree api.Tree
	want api.Errno
}

func hold(t *testing.T, cases []checked) {
	t.Helper()
	for _, c := range cases {
		if e := Check(c.tree); e != c.want {
			t.Errorf("Check of %s: %d, want %d", c.what, e, c.want)
		}
		b, e := Print(c.tree)
		if e != c.want || e != api.OK && len(b) != 0 || e == api.OK && len(b) == 0 {
			t.Errorf("Print of %s: %.99q, %d, want %d", c.what, b, e, c.want)
		}
		if same := Same(c.tree, c.tree); same != (c.want == api.OK) {
			t.Errorf("Same of %s: %v", c.what, same)
		}
	}
}

func TestTreesOfOneValue(t *testing.T) {
	hold(t, []checked{
		{"null", tree(null()), api.OK},
		{"true", tree(truly(true)), api.OK},
		{"false", tree(truly(false)), api.OK},
		{"0", tree(number(0)), api.OK},
		{"the greatest number", tree(number(api.MaxBig)), api.OK},
		{"the least number", tree(number(-api.MaxBig)), api.OK},
		{"no letter", tree(text("")), api.OK},
		{"letters", tree(text("a\x00\"\\\u20ac\U0001f600\ufffd")), api.OK},
		{"a list without kids", tree(list()), api.OK},
		{"an object without kids", tree(object(nil)), api.OK},
	})
}

func TestTreesOfSomeValues(t *testing.T) {
	hold(t, []checked{
		{"a list", tree(number(1), text("a"), list(0, 1)), api.OK},
		{"a list, its kids the other way round", tree(number(1), text("a"), list(1, 0)), api.OK},
		{"an object", tree(number(1), null(), object(names("a", "b"), 1, 0)), api.OK},
		{"an object with a name of no letter", tree(number(1), null(), object(names("", "a"), 0, 1)), api.OK},
		{"names that differ by case", tree(number(1), null(), object(names("a", "A"), 0, 1)), api.OK},
		{"two objects with one name", tree(number(1), object(names("a"), 0), object(names("a"), 1)), api.OK},
		{"an outer list's kids ahead of an inner one's", tree(number(1), number(2), list(1), list(0, 2)), api.OK},
		{"two lists' kids in turns", tree(number(1), number(2), number(3), number(4), list(0, 2), list(3, 1), list(5, 4)), api.OK},
		{"empty ones within", tree(list(), object(nil), list(0, 1)), api.OK},
	})
}

// TestEmptyIsNil: a list that is empty is as good as none, where it isn't used and where it is.
func TestEmptyIsNil(t *testing.T) {
	for _, v := range []api.Value{null(), truly(true), number(1), text("a"), list(), object(nil)} {
		v.Names, v.Kids = []string{}, []int{}
		hold(t, []checked{{fmt.Sprint("an empty list in ", v.Kind), tree(v), api.OK}})
		v.Names, v.Kids = make([]string, 0, 3), make([]int, 0, 3)
		hold(t, []checked{{fmt.Sprint("spare room in ", v.Kind), tree(v), api.OK}})
	}
}

func TestNoValue(t *testing.T) {
	hold(t, []checked{
		{"nil", nil, api.ErrTree},
		{"empty", api.Tree{}, api.ErrTree},
		{"room alone", make(api.Tree, 0, 4), api.ErrTree},
	})
}

// anywhere: a value as the whole, and as a kid of a list and an object.
func anywhere(v api.Value) []api.Tree {
	kids := len(v.Kids)
	t := append(numbers(kids), v)
	return []api.Tree{
		t,
		append(slices.Clone(t), list(kids)),
		append(slices.Clone(t), number(7), object(names("x", "y"), kids+1, kids)),
	}
}

func TestKindsThatAreNot(t *testing.T) {
	for _, k := range []api.JSONKind{0, -1, 7, 8, 1 << 40, -1 << 63, 1<<63 - 1} {
		for _, l := range anywhere(api.Value{Kind: k}) {
			hold(t, []checked{{fmt.Sprint("the kind ", k), l, api.ErrTree}})
		}
	}
}

func TestWhatAKindDoesNotUse(t *testing.T) {
	uses := map[api.JSONKind]string{api.Null: "", api.Bool: "t", api.Number: "n", api.String: "s", api.List: "k", api.Object: "ok"}
	for kind, used := range uses {
		for _, field := range "tnsok" {
			v := api.Value{Kind: kind}
			switch field {
			case 't':
				v.Truth = true
			case 'n':
				v.Num = -1
			case 's':
				v.Text = "x"
			case 'o':
				v.Names = names("a")
			case 'k':
				v.Kids = []int{0}
			}
			if kind == api.Object && (field == 'o' || field == 'k') {
				v.Names, v.Kids = names("a"), []int{0}
			}
			want := api.ErrTree
			if slices.Contains([]rune(used), field) {
				want = api.OK
			}
			for _, l := range anywhere(v) {
				hold(t, []checked{{fmt.Sprintf("kind %d with %c", kind, field), l, want}})
			}
		}
	}
}

func TestNumbersThatDoNotFit(t *testing.T) {
	for _, n := range []int{api.MaxBig + 1, -api.MaxBig - 1, 1<<63 - 1, -1 << 63} {
		for _, l := range anywhere(number(n)) {
			hold(t, []checked{{fmt.Sprint(n), l, api.ErrTree}})
		}
	}
}

// broken are strings that are no UTF-8.
func broken() []string {
	return []string{
		"\xff", "a\x80", "\x80b", "\xc3", "\xc3(", "\xe2\x82", "a\xe2\x82b", "\xf0\x9f\x98", "\xf0\x9f\x98z",
		"\xc0\x80", "\xc1\xbf", "\xe0\x80\x80", "\xe0\x9f\xbf", "\xf0\x80\x80\x80", "\xf0\x8f\xbf\xbf",
		"\xed\xa0\x80", "\xed\xbf\xbf", "\xf4\x90\x80\x80", "\xf5\x80\x80\x80", "\xfe", "\u20ac\xff",
	}
}

func TestStringsThatAreNoUTF8(t *testing.T) {
	for _, s := range broken() {
		for _, l := range anywhere(text(s)) {
			hold(t, []checked{{fmt.Sprintf("the string %q", s), l, api.ErrTree}})
		}
		for _, l := range anywhere(object(names(s), 0)) {
			hold(t, []checked{{fmt.Sprintf("the name %q", s), l, api.ErrTree}})
		}
		for _, l := range anywhere(object(names("a", s), 0, 1)) {
			hold(t, []checked{{fmt.Sprintf("the second name %q", s), l, api.ErrTree}})
		}
	}
}

func TestNames(t *testing.T) {
	for _, l := range [][]string{
		names("a", "a"), names("", ""), names("a", "b", "a"), names("a", "b", "b"), names("b", "b", "a"), names("\u20ac", "\u20ac"), names("\xff", "\xff"), names("a", "a", "a"),
	} {
		for _, c := range anywhere(object(l, 0, 1, 2)) {
			hold(t, []checked{{fmt.Sprintf("three kids with the names %q", l), c, api.ErrTree}})
		}
		kids := []int{0, 1, 2}[:len(l)]
		for _, c := range anywhere(object(l, kids...)) {
			hold(t, []checked{{fmt.Sprintf("the names %q", l), c, api.ErrTree}})
		}
	}
	for n := range 4 {
		for kids := range 4 {
			want := api.ErrTree
			if n == kids {
				want = api.OK
			}
			v := object(names("a", "b", "c")[:n], []int{0, 1, 2}[:kids]...)
			for _, c := range anywhere(v) {
				hold(t, []checked{{fmt.Sprintf("%d names, %d kids", n, kids), c, want}})
			}
		}
	}
}

func TestKidsThatAreNoPlaceAhead(t *testing.T) {
	for _, k := range []int{-1, 2, 3, 4, 1 << 40, -1 << 63, 1<<63 - 1} {
		hold(t, []checked{
			{fmt.Sprint("a list's kid ", k), tree(number(1), number(2), list(0, 1, k)), api.ErrTree},
			{fmt.Sprint("a list's first kid ", k), tree(number(1), number(2), list(k, 0, 1)), api.ErrTree},
			{fmt.Sprint("a list's kid in place of another ", k), tree(number(1), number(2), list(0, k)), api.ErrTree},
			{fmt.Sprint("an object's kid ", k), tree(number(1), number(2), object(names("a", "b"), k, 0)), api.ErrTree},
			{fmt.Sprint("an inner list's kid ", k), tree(number(1), number(2), list(k), list(0, 1, 2)), api.ErrTree},
		})
	}
	hold(t, []checked{
		{"its own kid", tree(list(0)), api.ErrTree},
		{"an inner one's own kid", tree(list(0), list(0)), api.ErrTree},
		{"a kid behind", tree(list(1), number(1), list(0)), api.ErrTree},
		{"each other's kids", tree(list(1), list(0)), api.ErrTree},
		{"the whole as a kid", tree(number(1), list(2), list(0, 1)), api.ErrTree},
		{"the whole first", tree(list(1, 2), number(1), number(2)), api.ErrTree},
	})
}

func TestKidsTwiceOrNotAtAll(t *testing.T) {
	hold(t, []checked{
		{"two numbers", tree(number(0), number(0)), api.ErrTree},
		{"a kid twice in a list", tree(number(1), list(0, 0)), api.ErrTree},
		{"a kid twice in an object", tree(number(1), object(names("a", "b"), 0, 0)), api.ErrTree},
		{"a kid of two lists", tree(number(1), list(0), list(0, 1)), api.ErrTree},
		{"a kid of two inner lists", tree(number(1), list(0), list(0), list(1, 2)), api.ErrTree},
		{"a kid twice in place of another", tree(number(1), number(2), list(1, 1)), api.ErrTree},
		{"the first is no kid", tree(number(1), number(2), list(1)), api.ErrTree},
		{"the second is no kid", tree(number(1), number(2), list(0)), api.ErrTree},
		{"the one ahead of the whole is no kid", tree(number(1), list(0), number(2)), api.ErrTree},
		{"no kids at all", tree(number(1), number(2), list()), api.ErrTree},
		{"a tree behind a tree", tree(number(1), list(0), number(2), list(2)), api.ErrTree},
		{"a number whose kid is ahead", tree(number(1), api.Value{Kind: api.Number, Kids: []int{0}}), api.ErrTree},
	})
}

func TestManyValues(t *testing.T) {
	for _, n := range []int{2, 3, 100, api.MaxValues - 1, api.MaxValues} {
		hold(t, []checked{{fmt.Sprint(n, " values"), flat(n), api.OK}})
	}
	for _, n := range []int{api.MaxValues + 1, api.MaxValues + 2, 2 * api.MaxValues} {
		hold(t, []checked{{fmt.Sprint(n, " values"), flat(n), api.ErrMany}})
	}
}

func TestDeep(t *testing.T) {
	for n := range 40 {
		want := api.OK
		if n > api.MaxDeep {
			want = api.ErrDeep
		}
		hold(t, []checked{
			{fmt.Sprint("a number in ", n), nested(n, number(1)), want},
			{fmt.Sprint("a string in ", n), nested(n, text("a")), want},
		})
		if n > 0 {
			hold(t, []checked{
				{fmt.Sprint("an empty list in ", n-1), nested(n-1, list()), want},
				{fmt.Sprint("an empty object in ", n-1), nested(n-1, object(nil)), want},
			})
		}
	}
}

// TestDeepestKid: the deepest kid counts, wherever it stands, and others make nothing deeper.
func TestDeepestKid(t *testing.T) {
	for _, c := range []struct {
		deep int
		want api.Errno
	}{{api.MaxDeep - 1, api.OK}, {api.MaxDeep, api.ErrDeep}} {
		for place := range 3 {
			deepest := nested(c.deep, number(1))
			top := len(deepest) - 1
			l := append(deepest, list(), object(nil))
			kids := slices.Insert([]int{top + 1, top + 2}, place, top)
			hold(t, []checked{
				{fmt.Sprint("the deepest kid of a list at ", place), append(slices.Clone(l), list(kids...)), c.want},
				{fmt.Sprint("the deepest kid of an object at ", place), append(slices.Clone(l), object(names("a", "b", "c"), kids...)), c.want},
			})
		}
	}
	var wide api.Tree
	whole := list()
	for range 100 {
		wide = append(wide, number(1), list(len(wide)))
		whole.Kids = append(whole.Kids, len(wide)-1)
	}
	hold(t, []checked{{"many lists side by side", append(wide, whole), api.OK}})
}

// TestWhichErrorGoesFirst: too many ahead of no tree, no tree ahead of too deep, whichever of them stands first in the tree.
func TestWhichErrorGoesFirst(t *testing.T) {
	many := flat(api.MaxValues + 1)
	notPlain := slices.Clone(many)
	notPlain[0] = api.Value{}
	lastNotPlain := slices.Clone(many)
	lastNotPlain[api.MaxValues].Text = "x"
	deep := nested(api.MaxDeep+1, number(1))
	deepNotPlain := slices.Clone(deep)
	deepNotPlain[0] = number(api.MaxBig + 1)
	deepWholeNotPlain := slices.Clone(deep)
	deepWholeNotPlain[len(deep)-1].Truth = true
	hold(t, []checked{
		{"too many that aren't joined", numbers(api.MaxValues + 1), api.ErrMany},
		{"too many of no kind", make(api.Tree, api.MaxValues+1), api.ErrMany},
		{"too many, one not plain", notPlain, api.ErrMany},
		{"too many, the last one not plain", lastNotPlain, api.ErrMany},
		{"too many, too deep", nested(api.MaxValues, number(1)), api.ErrMany},
		{"as many as may be, too deep", nested(api.MaxValues-1, number(1)), api.ErrDeep},
		{"as many as may be that aren't joined", numbers(api.MaxValues), api.ErrTree},
		{"too deep, the inmost not plain", deepNotPlain, api.ErrTree},
		{"too deep, the whole not plain", deepWholeNotPlain, api.ErrTree},
		{"too deep, one that is no kid", append(tree(number(1)), moved(deep, 1)...), api.ErrTree},
		{"too deep, no whole around it", append(slices.Clone(deep), number(1)), api.ErrTree},
	})
}

// moved: the values, to stand so many places further.
func moved(l api.Tree, by int) api.Tree {
	l = slices.Clone(l)
	for i := range l {
		l[i].Kids = slices.Clone(l[i].Kids)
		for j := range l[i].Kids {
			l[i].Kids[j] += by
		}
	}
	return l
}

// plainly: P3.1's words on one value, one by one.
func plainly(v api.Value) bool {
	zero := api.Value{Kind: v.Kind}
	switch v.Kind {
	case api.Null:
	case api.Bool:
		zero.Truth = v.Truth
	case api.Number:
		zero.Num = v.Num
		if v.Num > 1<<62-1 || v.Num < 1-1<<62 {
			return false
		}
	case api.String:
		zero.Text = v.Text
		if !utf8.ValidString(v.Text) {
			return false
		}
	case api.List:
		zero.Kids = v.Kids
	case api.Object:
		zero.Names, zero.Kids = v.Names, v.Kids
		if len(v.Names) != len(v.Kids) {
			return false
		}
		for i, s := range v.Names {
			if slices.Index(v.Names, s) != i || !utf8.ValidString(s) {
				return false
			}
		}
	default:
		return false
	}
	return v.Truth == zero.Truth && v.Num == zero.Num && v.Text == zero.Text && len(v.Names) == len(zero.Names) && len(v.Kids) == len(zero.Kids)
}

// down: how deep the value at this place is, asked from the whole down.
func down(t api.Tree, at int) int {
	deepest := 0
	for _, k := range t[at].Kids {
		deepest = max(deepest, down(t, k))
	}
	if t[at].Kind == api.List || t[at].Kind == api.Object {
		return deepest + 1
	}
	return 0
}

// slowly: P3.1's words on a tree, one by one.
func slowly(t api.Tree) api.Errno {
	if len(t) == 0 {
		return api.ErrTree
	}
	if len(t) > 8192 {
		return api.ErrMany
	}
	var kids []int
	for i, v := range t {
		if !plainly(v) {
			return api.ErrTree
		}
		for _, k := range v.Kids {
			if k < 0 || k >= i {
				return api.ErrTree
			}
			kids = append(kids, k)
		}
	}
	slices.Sort(kids)
	for i := range len(t) - 1 {
		if i >= len(kids) || kids[i] != i {
			return api.ErrTree
		}
	}
	if len(kids) != len(t)-1 {
		return api.ErrTree
	}
	if down(t, len(t)-1) > 16 {
		return api.ErrDeep
	}
	return api.OK
}

// TestAllShortTrees: all rows of up to four values of a few kinds.
func TestAllShortTrees(t *testing.T) {
	some := []api.Value{
		number(1), text("\xff"), list(), list(0), list(1), list(1, 0), list(0, 1), list(0, 2), list(2, 1, 0), list(0, 0), list(-1), list(2),
		object(names("a"), 0), object(names("a", "b"), 1, 2), object(names("a", "a"), 0, 1), object(names("a")), {Kind: api.Null, Kids: []int{0}}, {},
	}
	trees := 0
	var grow func(l api.Tree)
	grow = func(l api.Tree) {
		want := slowly(l)
		if want == api.OK {
			trees++
		}
		if e := Check(l); e != want {
			t.Errorf("%v: %d, want %d", l, e, want)
		}
		if len(l) == 4 {
			return
		}
		for _, v := range some {
			grow(append(slices.Clone(l), v))
		}
	}
	grow(nil)
	if trees < 20 {
		t.Errorf("only %d of them are trees", trees)
	}
}
