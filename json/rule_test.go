package json

import (
	"bytes"
	"math/rand"
	"reflect"
	"slices"
	"testing"

	"haulier/api"
)

// wild are texts in which every kind of value and of fault stands.
func wild() []string {
	return []string{
		"", "[1, \"a\"]", `{"a":{"b":[1,2,{"c":null}]},"d":["e",true,false,-7,""],"f":{}}`, `{"a":1,"a":2}`, "1.5", "[1", "[1 2]", "nux",
		`"\ud800"`, `"\ud83d\ude00\u0041\n"`, "\"\xff\"", "\"\u20ac\"", "[[[[[[[[[[[[[[[[[1]]]]]]]]]]]]]]]]]", "1 x", `[[1,2],[3,4],{"a":5,"b":6}]`,
	}
}

// answer is what Parse says of a text.
type answer struct {
	tree api.Tree
	at   int
	e    api.Errno
}

func parsed(b []byte) answer {
	tree, at, e := Parse(b)
	return answer{tree, at, e}
}

func TestTextIsLeftAlone(t *testing.T) {
	for _, s := range wild() {
		room := []byte("xx" + s + "yyyyyyyy")
		before := slices.Clone(room)
		parsed(room[2 : 2+len(s)])
		if !bytes.Equal(room, before) {
			t.Errorf("%q: now %q", s, room)
		}
	}
}

// TestTextIsNotKept: what is answered stays when the text changes, and asks nothing of what stands behind it.
func TestTextIsNotKept(t *testing.T) {
	for _, s := range wild() {
		want := parsed([]byte(s))
		room := []byte(s + "]}\"1")
		got := parsed(room[:len(s)])
		for i := range room {
			room[i] = '#'
		}
		if !reflect.DeepEqual(got, want) {
			t.Errorf("%q: %v, want %v", s, got, want)
		}
	}
}

func TestAnswersAreTheSameEachTime(t *testing.T) {
	for _, s := range wild() {
		want := parsed([]byte(s))
		for range 5 {
			if got := parsed([]byte(s)); !reflect.DeepEqual(got, want) {
				t.Errorf("%q: %v, want %v", s, got, want)
			}
		}
	}
}

// TestListsShareNoMemory: what is written to one list of an answer, its spare room too, shows in no other.
func TestListsShareNoMemory(t *testing.T) {
	for _, s := range wild() {
		want := parsed([]byte(s)).tree
		for i := range want {
			tree := parsed([]byte(s)).tree
			spoil(tree[i].Kids, -9)
			spoil(tree[i].Names, "spoilt")
			for j := range tree {
				if j != i && !sameValue(tree[j], want[j]) {
					t.Errorf("%q: value %d changes value %d: %v, want %v", s, i, j, tree[j], want[j])
				}
			}
		}
	}
}

// spoil writes to every element of a list, and to its spare room.
func spoil[T any](l []T, v T) {
	l = l[:cap(l)]
	for i := range l {
		l[i] = v
	}
}

// TestAnswersShareNoMemory: what is written to an answer shows in no other one.
func TestAnswersShareNoMemory(t *testing.T) {
	for _, s := range wild() {
		want, got, other := parsed([]byte(s)), parsed([]byte(s)), parsed([]byte(s))
		for _, v := range other.tree {
			spoil(v.Kids, -9)
			spoil(v.Names, "spoilt")
		}
		spoil(other.tree, api.Value{Kind: 99})
		if !reflect.DeepEqual(got, want) || !reflect.DeepEqual(parsed([]byte(s)), want) {
			t.Errorf("%q: %v, want %v", s, got, want)
		}
	}
}

// checkAnswer: what holds of every text's answer.
func checkAnswer(t *testing.T, b []byte) {
	t.Helper()
	got := parsed(b)
	if got.e != api.OK {
		if len(got.tree) != 0 || got.at < 0 || got.at > len(b) || got.e == api.ErrEnd && got.at != len(b) {
			t.Errorf("%q: %v", b, got)
		}
		return
	}
	if len(got.tree) == 0 || got.at != 0 {
		t.Errorf("%q: %v", b, got)
	}
	asked := make([]int, len(got.tree))
	for i, v := range got.tree {
		for _, k := range v.Kids {
			if k < 0 || k >= i {
				t.Fatalf("%q: value %d has the kid %d", b, i, k)
			}
			asked[k]++
		}
		plain := api.Value{Kind: v.Kind, Truth: v.Truth && v.Kind == api.Bool, Kids: v.Kids}
		switch v.Kind {
		case api.Null, api.Bool:
			plain.Kids = nil
		case api.Number:
			plain.Num, plain.Kids = v.Num, nil
		case api.String:
			plain.Text, plain.Kids = v.Text, nil
		case api.Object:
			plain.Names = v.Names
		}
		if v.Kind < api.Null || v.Kind > api.Object || !sameValue(v, plain) || v.Kind == api.Object && len(v.Names) != len(v.Kids) {
			t.Errorf("%q: value %d is %v", b, i, v)
		}
	}
	for i, n := range asked {
		if (n != 1) != (i == len(asked)-1) || n > 1 {
			t.Errorf("%q: value %d is a kid %d times", b, i, n)
		}
	}
}

// TestSpoiltTexts: texts with some bytes changed, put in or taken out end in an answer, too.
func TestSpoiltTexts(t *testing.T) {
	const letters = "[]{},:\"\\ua0d8-1.e ntfl\x00\x1f\x80\xc3\xe2\xff"
	r := rand.New(rand.NewSource(3))
	for range 20000 {
		texts := wild()
		b := []byte(texts[r.Intn(len(texts))])
		for range 1 + r.Intn(4) {
			at := r.Intn(len(b) + 1)
			switch r.Intn(3) {
			case 0:
				b = slices.Insert(b, at, letters[r.Intn(len(letters))])
			case 1:
				b = append(b[:at], b[min(at+1, len(b)):]...)
			default:
				if at < len(b) {
					b[at] = letters[r.Intn(len(letters))]
				}
			}
		}
		checkAnswer(t, b)
	}
}

func TestNoText(t *testing.T) {
	for _, b := range [][]byte{nil, {}, make([]byte, 0, 8)} {
		if got := parsed(b); len(got.tree) != 0 || got.at != 0 || got.e != api.ErrEnd {
			t.Errorf("%v: %v", b, got)
		}
	}
}

func FuzzParse(f *testing.F) {
	for _, s := range wild() {
		f.Add([]byte(s))
	}
	f.Fuzz(func(t *testing.T, b []byte) { checkAnswer(t, b) })
}
