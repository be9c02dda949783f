package show

import (
	"bytes"
	encoding "encoding/json"
	"fmt"
	"math/rand"
	"reflect"
	"slices"
	"strings"
	"testing"
	"unicode/utf8"

	"haulier/api"
	"haulier/json"
)

func TestQuote(t *testing.T) {
	for _, c := range [][2]string{
		{"", `""`},
		{"a", `"a"`},
		{"\t", `"\u0009"`},
		{"\n", `"\u000a"`},
		{"\r\b\f", `"\u000d\u0008\u000c"`},
		{"\x00", `"\u0000"`},
		{"\x1f", `"\u001f"`},
		{"\x10\x1a\x0f", `"\u0010\u001a\u000f"`},
		{"\x20\x21", `" !"`},
		{"\x7f", "\"\x7f\""},
		{"/", `"/"`},
		{"<>&'", `"<>&'"`},
		{`"`, `"\""`},
		{`\`, `"\\"`},
		{`a"b\c`, `"a\"b\\c"`},
		{`\u0041`, `"\\u0041"`},
		{`""`, `"\"\""`},
		{"\u0080\u07ff\u0800\uffff", "\"\u0080\u07ff\u0800\uffff\""},
		{"\u2028\u2029\ufeff", "\"\u2028\u2029\ufeff\""},
		{"\ud7ff\ue000\U00010000\U0010ffff", "\"\ud7ff\ue000\U00010000\U0010ffff\""},
		{"\ufffd", "\"\ufffd\""},
		{"\xff\"", "\"\ufffd\\\"\""},
		{"\xff\xfe", "\"\ufffd\ufffd\""},
		{"a\x80b", "\"a\ufffdb\""},
		{"\xc3", "\"\ufffd\""},
		{"\xc3\xa4", "\"\u00e4\""},
		{"\xc3\n", "\"\ufffd\\u000a\""},
		{"\xc0\x80", "\"\ufffd\ufffd\""},
		{"\xe2\x82", "\"\ufffd\ufffd\""},
		{"\xe2\x82\xe2\x82\xac", "\"\ufffd\ufffd\u20ac\""},
		{"\xed\xa0\x80", "\"\ufffd\ufffd\ufffd\""},
		{"\xed\xa0\xbd\xed\xb8\x80", "\"\ufffd\ufffd\ufffd\ufffd\ufffd\ufffd\""},
		{"\xf0\x9f\x98", "\"\ufffd\ufffd\ufffd\""},
		{"\xf0\x9f\x98\x80\x80", "\"\U0001f600\ufffd\""},
		{"\xf4\x90\x80\x80", "\"\ufffd\ufffd\ufffd\ufffd\""},
	} {
		if got := Quote(c[0]); got != c[1] {
			t.Errorf("Quote(%q): %q, want %q", c[0], got, c[1])
		}
	}
}

// quoted: P3.2's words on one rune.
func quoted(r rune) string {
	switch {
	case r < 0x20:
		return fmt.Sprintf("\\u%04x", r)
	case r == 0x22 || r == 0x5c:
		return string([]rune{0x5c, r})
	}
	return string(r)
}

func TestQuoteOfEachRune(t *testing.T) {
	for r := rune(0); r <= utf8.MaxRune; r++ {
		if !utf8.ValidRune(r) {
			continue
		}
		if got, want := Quote(string(r)), `"`+quoted(r)+`"`; got != want {
			t.Fatalf("Quote of %x: %q, want %q", r, got, want)
		}
	}
}

// TestQuoteOfAllShortRows: bytes that begin, go on and end encodings, in all rows of up to four.
func TestQuoteOfAllShortRows(t *testing.T) {
	some := []byte{'"', '\\', 0, 'a', 0x80, 0x8f, 0x90, 0x9f, 0xa0, 0xbf, 0xc0, 0xc1, 0xc2, 0xdf, 0xe0, 0xe1, 0xed, 0xef, 0xf0, 0xf3, 0xf4, 0xf5, 0xff}
	var grow func(b []byte)
	grow = func(b []byte) {
		var want strings.Builder
		for rest := b; len(rest) > 0; {
			r, size := utf8.DecodeRune(rest)
			want.WriteString(quoted(r))
			rest = rest[size:]
		}
		if got := Quote(string(b)); got != `"`+want.String()+`"` {
			t.Errorf("Quote(%q): %q, want %q", b, got, want.String())
		}
		if len(b) < 4 {
			for _, c := range some {
				grow(append(slices.Clone(b), c))
			}
		}
	}
	grow(nil)
}

// TestQuoteIsRead: what was quoted is read as that string again.
func TestQuoteIsRead(t *testing.T) {
	for r := rune(0); r < 0x300; r++ {
		s := "x" + string(r) + "y" + string(r)
		got, _, e := json.Parse([]byte(Quote(s)))
		if e != api.OK || len(got) != 1 || got[0].Text != s {
			t.Errorf("%q: %v, %d", s, got, e)
		}
	}
	for _, s := range broken() {
		got, _, e := json.Parse([]byte(Quote(s)))
		if e != api.OK || len(got) != 1 || !utf8.ValidString(got[0].Text) || utf8.RuneCountInString(got[0].Text) != utf8.RuneCountInString(s) {
			t.Errorf("%q: %v, %d", s, got, e)
		}
	}
}

func TestPrint(t *testing.T) {
	for _, c := range []struct {
		tree api.Tree
		want string
	}{
		{tree(null()), "null"},
		{tree(truly(true)), "true"},
		{tree(truly(false)), "false"},
		{tree(number(0)), "0"},
		{tree(number(-12)), "-12"},
		{tree(number(1000000)), "1000000"},
		{tree(number(api.MaxBig)), "4611686018427387903"},
		{tree(number(-api.MaxBig)), "-4611686018427387903"},
		{tree(text("")), `""`},
		{tree(text("a\n\"\u20ac")), "\"a\\u000a\\\"\u20ac\""},
		{tree(list()), "[]"},
		{tree(object(nil)), "{}"},
		{tree(number(1), list(0)), "[1]"},
		{tree(number(1), text("a\n"), list(0, 1)), `[1,"a\u000a"]`},
		{tree(number(1), object(names("a"), 0)), `{"a":1}`},
		{tree(number(1), null(), object(names("b", "a"), 0, 1)), `{"b":1,"a":null}`},
		{tree(null(), object(names("\t\"\\\u20ac"), 0)), "{\"\\u0009\\\"\\\\\u20ac\":null}"},
		{tree(null(), object(names(""), 0)), `{"":null}`},
		{tree(list(), object(nil), list(0, 1)), "[[],{}]"},
		{tree(list(), object(names("a"), 0), list(1)), `[{"a":[]}]`},
		{tree(truly(true), truly(false), null(), list(0, 1, 2)), "[true,false,null]"},
	} {
		b, e := Print(c.tree)
		if e != api.OK || string(b) != c.want {
			t.Errorf("Print(%v): %q, %d, want %q", c.tree, b, e, c.want)
		}
	}
}

// TestPrintInAnotherOrder: the kids' order is what is written, wherever they stand.
func TestPrintInAnotherOrder(t *testing.T) {
	for _, c := range []struct {
		tree api.Tree
		want string
	}{
		{tree(number(0), number(1), number(2), list(2, 0, 1)), "[2,0,1]"},
		{tree(number(0), number(1), object(names("a", "b"), 1, 0)), `{"a":1,"b":0}`},
		{tree(number(0), number(1), list(1), list(0, 2)), "[0,[1]]"},
		{tree(number(0), number(1), list(0), list(2, 1)), "[[0],1]"},
		{tree(number(0), number(1), number(2), number(3), list(0, 2), object(names("x", "y"), 3, 1), list(5, 4)), `[{"x":3,"y":1},[0,2]]`},
		{tree(list(), object(nil), text("z"), list(2, 1), list(3, 0)), `[["z",{}],[]]`},
	} {
		b, e := Print(c.tree)
		if e != api.OK || string(b) != c.want {
			t.Errorf("Print(%v): %q, %d, want %q", c.tree, b, e, c.want)
		}
	}
}

func TestPrintOfNoTree(t *testing.T) {
	for want, l := range map[api.Errno]api.Tree{api.ErrTree: numbers(2), api.ErrMany: flat(api.MaxValues + 1), api.ErrDeep: nested(api.MaxDeep+1, null())} {
		if b, e := Print(l); e != want || len(b) != 0 {
			t.Errorf("%.99q, %d, want %d", b, e, want)
		}
	}
}

// TestPrintOfLongTexts: what is written may be longer than what is read.
func TestPrintOfLongTexts(t *testing.T) {
	b, e := Print(tree(text(strings.Repeat("a", 3*api.MaxText))))
	if e != api.OK || string(b) != `"`+strings.Repeat("a", 3*api.MaxText)+`"` {
		t.Errorf("%d bytes, %d", len(b), e)
	}
	if _, at, e := json.Parse(b); at != api.MaxText || e != api.ErrLong {
		t.Errorf("%d, %d", at, e)
	}
	many := flat(api.MaxValues)
	want := "["
	for i := range api.MaxValues - 1 {
		many[i].Num = api.MaxBig - i
		want += fmt.Sprint(api.MaxBig-i) + ","
	}
	want = want[:len(want)-1] + "]"
	b, e = Print(many)
	if e != api.OK || string(b) != want || len(b) <= api.MaxText {
		t.Errorf("%d bytes, %d, want %d", len(b), e, len(want))
	}
}

func TestSame(t *testing.T) {
	trees := []api.Tree{
		tree(null()), tree(truly(true)), tree(truly(false)), tree(number(0)), tree(number(1)), tree(number(-1)), tree(text("")), tree(text("1")), tree(text("null")),
		tree(list()), tree(object(nil)), tree(list(), list(0)), tree(number(1), list(0)), tree(text("1"), list(0)),
		tree(number(1), number(2), list(0, 1)), tree(number(1), number(2), list(1, 0)), tree(number(12), list(0)), tree(text(","), text(","), list(0, 1)), tree(text(`","`), list(0)),
		tree(number(1), object(names("a"), 0)), tree(number(1), object(names("b"), 0)), tree(number(2), object(names("a"), 0)), tree(number(1), object(names("A"), 0)),
		tree(number(1), number(2), object(names("a", "b"), 0, 1)), tree(number(1), number(2), object(names("b", "a"), 0, 1)), tree(number(1), number(2), object(names("b", "a"), 1, 0)),
		tree(number(0), number(1), list(0), list(2, 1)), tree(number(0), number(1), list(1), list(0, 2)),
		tree(text("\u00e9")), tree(text("e\u0301")), tree(text("\ufffd")),
	}
	// No two of them have one text: the order of names counts, too.
	for i, a := range trees {
		for j, b := range trees {
			if got := Same(a, b); got != (i == j) {
				t.Errorf("Same(%v, %v): %v", a, b, got)
			}
		}
	}
}

// TestSameOfOtherPlaces: values that stand elsewhere, but have one text.
func TestSameOfOtherPlaces(t *testing.T) {
	for _, c := range [][2]api.Tree{
		{tree(number(1), number(2), list(0, 1)), tree(number(2), number(1), list(1, 0))},
		{tree(number(1), number(2), object(names("a", "b"), 0, 1)), tree(number(2), number(1), object(names("a", "b"), 1, 0))},
		{tree(number(1), list(0), number(2), list(2), list(1, 3)), tree(number(2), number(1), list(0), list(1), list(3, 2))},
		{tree(list()), tree(api.Value{Kind: api.List, Names: []string{}, Kids: []int{}})},
		{tree(object(nil)), tree(api.Value{Kind: api.Object, Names: []string{}, Kids: []int{}})},
	} {
		if !Same(c[0], c[1]) || !Same(c[1], c[0]) {
			t.Errorf("Same(%v, %v)", c[0], c[1])
		}
	}
}

// TestSameOfNoTree: what is no tree is the same as nothing, not even as itself.
func TestSameOfNoTree(t *testing.T) {
	none := []api.Tree{nil, {}, numbers(2), tree(text("\xff")), tree(number(api.MaxBig + 1)), tree(list(0)), flat(api.MaxValues + 1), nested(api.MaxDeep+1, null()), tree(api.Value{})}
	for _, a := range none {
		for _, b := range append(none, tree(null()), tree(text("")), tree(text("\ufffd"))) {
			if Same(a, b) || Same(b, a) {
				t.Errorf("Same(%.99v, %.99v)", a, b)
			}
		}
	}
}

// there: a tree is written and read again: Same, and its text's values in a parser's order.
func there(t *testing.T, l api.Tree) {
	t.Helper()
	b, e := Print(l)
	if e != api.OK {
		t.Fatalf("%v: %d", l, e)
	}
	if len(b) > api.MaxText {
		return
	}
	got, at, e := json.Parse(b)
	if e != api.OK || !Same(l, got) || len(got) != len(l) {
		t.Errorf("%q is read as %v, %d, %d", b, got, at, e)
	}
	again, e := Print(got)
	if e != api.OK || !bytes.Equal(again, b) {
		t.Errorf("%q is written again as %q, %d", b, again, e)
	}
}

// back: a text is read and written: without blanks, and read as that tree again.
func back(t *testing.T, b []byte) {
	t.Helper()
	l, at, e := json.Parse(b)
	if e != api.OK {
		t.Fatalf("%q: %d, %d", b, at, e)
	}
	if e := Check(l); e != api.OK {
		t.Errorf("%q: the tree %v: %d", b, l, e)
	}
	out, e := Print(l)
	if e != api.OK || !encoding.Valid(out) {
		t.Errorf("%q: %q, %d", b, out, e)
	}
	if len(out) > api.MaxText {
		return
	}
	again, at, e := json.Parse(out)
	if e != api.OK || !reflect.DeepEqual(again, l) || !Same(again, l) {
		t.Errorf("%q, as %q: %v, %d, %d, want %v", b, out, again, at, e, l)
	}
	var first, second any
	if encoding.Unmarshal(b, &first) != nil || encoding.Unmarshal(out, &second) != nil || !reflect.DeepEqual(first, second) {
		t.Errorf("%q: the library reads %v, and of %q %v", b, first, out, second)
	}
}

// texts are some that can be read.
func texts() []string {
	return []string{
		"null", " true ", "\tfalse\n", "0", "-7", "4611686018427387903", `""`, `"a"`, "[]", "[ ]", "{}", "{ }", "[ 1 , \"a\\u000a\" ]",
		`{"a":{"b":[1,2,{"c":null}]},"d":["e",true,false,-7,""],"f":{}}`, `"\ud83d\ude00\u0041\n\/\b\f\r\t\"\\"`, "\"\u20ac\ufffd\x7f\"",
		`{"\u0061":1,"\u0000":2,"":3}`, strings.Repeat("[", 16) + strings.Repeat("]", 16), strings.Repeat(`{"a":`, 16) + "1" + strings.Repeat("}", 16),
		"[" + strings.Repeat("0,", api.MaxValues-2) + "0]", `"` + strings.Repeat("x", api.MaxText-2) + `"`, `"` + strings.Repeat(`\n`, api.MaxText/2-1) + `"`,
	}
}

func TestBack(t *testing.T) {
	for _, s := range texts() {
		back(t, []byte(s))
	}
}

// TestCompact: a text whose strings need no other escapes is written as the library does it: the same without blanks.
func TestCompact(t *testing.T) {
	const s = " { \"a\" : [ 1 , -2 , { } , [ ] , \"x\\u0001\\\\\\\" \" ] , \"\" : { \"b\" : null , \"c\" : true , \"d\" : false } } "
	l, _, _ := json.Parse([]byte(s))
	var want bytes.Buffer
	if err := encoding.Compact(&want, []byte(s)); err != nil {
		t.Fatal(err)
	}
	if b, e := Print(l); e != api.OK || string(b) != want.String() {
		t.Errorf("%q, %d, want %q", b, e, want.String())
	}
}

// grown: a tree of up to so many values, those of each list anywhere ahead of it.
func grown(r *rand.Rand, most int) api.Tree {
	letters := []string{"", "a", "b", "\"", "\\", "\n", "\x1f", "\x7f", "\u00e4", "\u20ac", "\ufffd", "\U0001f600"}
	word := func() string { return letters[r.Intn(len(letters))] + letters[r.Intn(len(letters))] }
	var t api.Tree
	var loose []int
	for len(t) < most {
		v := []api.Value{null(), truly(r.Intn(2) == 0), number(r.Intn(2001) - 1000), text(word()), list(), object(nil)}[r.Intn(6)]
		if v.Kind == api.List || v.Kind == api.Object {
			for range r.Intn(len(loose) + 1) {
				i := r.Intn(len(loose))
				v.Kids = append(v.Kids, loose[i])
				loose = slices.Delete(loose, i, i+1)
				if v.Kind == api.Object {
					v.Names = append(v.Names, fmt.Sprint(word(), len(v.Names)))
				}
			}
		}
		t = append(t, v)
		loose = append(loose, len(t)-1)
	}
	return append(t, list(loose...))
}

func TestThere(t *testing.T) {
	r := rand.New(rand.NewSource(5))
	trees := 0
	for range 3000 {
		l := grown(r, r.Intn(30))
		if want := slowly(l); Check(l) != want {
			t.Errorf("%v: %d, want %d", l, Check(l), want)
		} else if want == api.OK {
			trees++
			there(t, l)
		}
	}
	if trees < 2000 {
		t.Errorf("only %d of them are trees", trees)
	}
	there(t, flat(api.MaxValues))
	there(t, nested(api.MaxDeep, text("\x00")))
}
