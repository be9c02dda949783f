package show

import (
	"math/rand"
	"reflect"
	"slices"
	"testing"
	"unicode/utf8"

	"haulier/api"
	"haulier/json"
)

// spoil writes to every element of a list, and to its spare room.
func spoil[T any](l []T, v T) {
	l = l[:cap(l)]
	for i := range l {
		l[i] = v
	}
}

// roomy: the same tree, with room behind each list that holds these values.
func roomy(t api.Tree) api.Tree {
	out := append(slices.Clone(t), number(77), list(0), null())
	for i := range t {
		out[i].Names = append(slices.Clone(t[i].Names), "room", "more")[:len(t[i].Names)]
		out[i].Kids = append(slices.Clone(t[i].Kids), 0, 1)[:len(t[i].Kids)]
	}
	return out[:len(t)]
}

// whole: a tree with all its spare room, as new memory.
func whole(t api.Tree) api.Tree {
	out := slices.Clone(t[:cap(t)])
	for i := range out {
		out[i].Names = slices.Clone(out[i].Names[:cap(out[i].Names)])
		out[i].Kids = slices.Clone(out[i].Kids[:cap(out[i].Kids)])
	}
	return out
}

// wild are trees, and what is none.
func wild() []api.Tree {
	out := []api.Tree{
		nil, {}, numbers(2), tree(null()), tree(text("\xff")), tree(number(api.MaxBig + 1)), tree(list(0)), tree(list(-5)), tree(object(names("a", "a"), 0, 1)),
		flat(5), flat(api.MaxValues + 1), nested(api.MaxDeep, text("x")), nested(api.MaxDeep+1, null()), tree(api.Value{}),
		tree(number(1), number(2), list(1), object(names("a", "b"), 2, 0)), tree(object(nil), object(names("a"))),
	}
	r := rand.New(rand.NewSource(8))
	for range 20 {
		out = append(out, grown(r, 12))
	}
	return out
}

type answer struct {
	check api.Errno
	text  []byte
	e     api.Errno
	same  bool
}

func asked(a, b api.Tree) answer {
	text, e := Print(a)
	return answer{Check(a), text, e, Same(a, b)}
}

func TestTreesAreLeftAlone(t *testing.T) {
	for _, l := range wild() {
		one, other := roomy(l), roomy(l)
		before := whole(one)
		asked(one, other)
		if !reflect.DeepEqual(whole(one), before) || !reflect.DeepEqual(whole(other), before) {
			t.Errorf("%.200v: now %.200v, %.200v", before, one, other)
		}
	}
}

// TestRoomIsNotRead: what stands behind the lists that are handed in changes no answer.
func TestRoomIsNotRead(t *testing.T) {
	for _, l := range wild() {
		if got, want := asked(roomy(l), l), asked(l, l); !reflect.DeepEqual(got, want) {
			t.Errorf("%.200v: %.200v, want %.200v", l, got, want)
		}
	}
}

// TestTextIsNewMemory: it shares nothing with the tree or with another text, and is answered again whatever became of it.
func TestTextIsNewMemory(t *testing.T) {
	for _, l := range wild() {
		one := roomy(l)
		before := whole(one)
		want := asked(one, one)
		got, other := asked(one, one), asked(one, one)
		spoil(other.text, '#')
		if !reflect.DeepEqual(got, want) || !reflect.DeepEqual(asked(one, one), want) || !reflect.DeepEqual(whole(one), before) {
			t.Errorf("%.200v: %.200v, want %.200v", l, got, want)
		}
		for i := range one {
			spoil(one[i].Names, "#")
			spoil(one[i].Kids, -1)
		}
		spoil(one, api.Value{})
		if !reflect.DeepEqual(got, want) {
			t.Errorf("%.200v: %.200v, want %.200v", l, got, want)
		}
	}
}

// TestErrorsComeAlone: beside an error there is no text, beside none there is one that can be read.
func TestErrorsComeAlone(t *testing.T) {
	for _, l := range wild() {
		got := asked(l, l)
		if got.check != got.e || (got.e == api.OK) != got.same || (got.e == api.OK) != (len(got.text) > 0) {
			t.Errorf("%.200v: %.200v", l, got)
		}
	}
}

// made: values made of bytes, whatever they are.
func made(b []byte) api.Tree {
	next := func() int {
		if len(b) == 0 {
			return 0
		}
		c := int(b[0])
		b = b[1:]
		return c
	}
	kid := func(at int) int {
		c := next()
		if c < 250 && at > 0 {
			return c % at
		}
		return []int{-1, at, at + 1, 1 << 62, -1 << 63, 0}[c%6]
	}
	var t api.Tree
	for len(b) > 0 && len(t) < 60 {
		c := next()
		v := api.Value{Kind: api.JSONKind(c % 8)}
		switch v.Kind {
		case api.Bool:
			v.Truth = c > 99
		case api.Number:
			v.Num = []int{c, -c, api.MaxBig, api.MaxBig + c - 40, -1 << 63}[next()%5]
		case api.String:
			v.Text = string([]byte{byte(next()), byte(next())})
		}
		if v.Kind == api.List || v.Kind == api.Object || c > 240 {
			for range next() % 5 {
				v.Kids = append(v.Kids, kid(len(t)))
			}
		}
		if v.Kind == api.Object || c > 248 {
			for range len(v.Kids) + c/200 {
				v.Names = append(v.Names, string([]byte{byte(next())}))
			}
		}
		t = append(t, v)
	}
	return t
}

// holds: what is promised of any values.
func holds(t *testing.T, l api.Tree) {
	t.Helper()
	want := slowly(l)
	got := asked(l, l)
	if got.check != want || got.e != want || got.same != (want == api.OK) {
		t.Errorf("%v: %v, want %d", l, got, want)
	}
	if want == api.OK {
		there(t, l)
	}
}

func TestValuesOfAnyBytes(t *testing.T) {
	r := rand.New(rand.NewSource(6))
	trees := 0
	for range 50000 {
		b := make([]byte, r.Intn(12))
		r.Read(b)
		l := made(b)
		holds(t, l)
		if Check(l) == api.OK {
			trees++
		}
	}
	if trees < 500 {
		t.Errorf("only %d of them are trees", trees)
	}
}

// TestSpoiltTrees: trees with one thing changed end in an answer, and in the right one.
func TestSpoiltTrees(t *testing.T) {
	r := rand.New(rand.NewSource(7))
	for range 20000 {
		l := whole(grown(r, 1+r.Intn(10)))
		i := r.Intn(len(l))
		v := &l[i]
		switch r.Intn(7) {
		case 0:
			v.Kind = api.JSONKind(r.Intn(9) - 1)
		case 1:
			v.Truth = !v.Truth
		case 2:
			v.Num = []int{0, 5, api.MaxBig + 1, -1 << 63}[r.Intn(4)]
		case 3:
			v.Text = []string{"", "a", "\xff", "a\xc3"}[r.Intn(4)]
		case 4:
			v.Names = append(v.Names, "a0")
		case 5:
			v.Kids = append(v.Kids, r.Intn(len(l)+2)-1)
		default:
			if len(v.Kids) > 0 {
				v.Kids[r.Intn(len(v.Kids))] = r.Intn(len(l))
			}
		}
		holds(t, l)
	}
}

func FuzzValues(f *testing.F) {
	f.Add([]byte{3, 0, 5, 1, 0})
	f.Add([]byte{1, 4, 65, 66, 6, 2, 0, 1, 97, 98})
	f.Fuzz(func(t *testing.T, b []byte) { holds(t, made(b)) })
}

// FuzzTexts: any bytes quoted, and any text that can be read written again.
func FuzzTexts(f *testing.F) {
	for _, s := range append(texts(), broken()...) {
		f.Add([]byte(s))
	}
	f.Fuzz(func(t *testing.T, b []byte) {
		got, _, e := json.Parse([]byte(Quote(string(b))))
		if len(b) < api.MaxText/6-2 && (e != api.OK || utf8.Valid(b) && got[0].Text != string(b)) {
			t.Errorf("%q: %v, %d", b, got, e)
		}
		if _, _, e := json.Parse(b); e == api.OK {
			back(t, b)
		}
	})
}
