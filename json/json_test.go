package json

import (
	std "encoding/json"
	"errors"
	"math/rand"
	"reflect"
	"strings"
	"testing"

	"haulier/api"
	"haulier/num"
)

func null() api.Value                { return api.Value{Kind: api.Null} }
func truth(b bool) api.Value         { return api.Value{Kind: api.Bool, Truth: b} }
func number(n int) api.Value         { return api.Value{Kind: api.Number, Num: n} }
func text(s string) api.Value        { return api.Value{Kind: api.String, Text: s} }
func list(kids ...int) api.Value     { return api.Value{Kind: api.List, Kids: kids} }
func names(names ...string) []string { return names }
func object(names []string, kids ...int) api.Value {
	return api.Value{Kind: api.Object, Names: names, Kids: kids}
}

// sameValue: are two values the same in every field? (An empty list and none are: R5.)
func sameValue(a, b api.Value) bool {
	return a.Kind == b.Kind && a.Truth == b.Truth && a.Num == b.Num && a.Text == b.Text &&
		len(a.Names) == len(b.Names) && (len(a.Names) == 0 || reflect.DeepEqual(a.Names, b.Names)) &&
		len(a.Kids) == len(b.Kids) && (len(a.Kids) == 0 || reflect.DeepEqual(a.Kids, b.Kids))
}

func sameTree(a, b api.Tree) bool {
	if len(a) != len(b) {
		return false
	}
	for i := range a {
		if !sameValue(a[i], b[i]) {
			return false
		}
	}
	return true
}

// short is a text as a failure tells it.
func short(s string) string {
	if len(s) > 60 {
		return s[:30] + ".." + s[len(s)-30:]
	}
	return s
}

// wantTree: the text is read as this tree.
func wantTree(t *testing.T, s string, want api.Tree) {
	t.Helper()
	tree, at, e := Parse([]byte(s))
	if e != api.OK || at != 0 || !sameTree(tree, want) {
		t.Errorf("%q: %v %d %d, want %v", short(s), tree, at, e, want)
	}
}

// wantRead: the text is read without a fault, and has so many values.
func wantRead(t *testing.T, s string, values int) {
	t.Helper()
	tree, at, e := Parse([]byte(s))
	if e != api.OK || at != 0 || len(tree) != values {
		t.Errorf("%q: %d values, %d %d, want %d values", short(s), len(tree), at, e, values)
	}
}

// wantFault: the text's first fault is this one, and no tree stands beside it.
func wantFault(t *testing.T, s string, place int, code api.Errno) {
	t.Helper()
	tree, at, e := Parse([]byte(s))
	if len(tree) != 0 || at != place || e != code {
		t.Errorf("%q: %d values, %d %d, want %d %d", short(s), len(tree), at, e, place, code)
	}
}

type faulty struct {
	s    string
	at   int
	code api.Errno
}

func wantFaults(t *testing.T, cases []faulty) {
	t.Helper()
	for _, c := range cases {
		wantFault(t, c.s, c.at, c.code)
	}
}

func TestTreesOfSingleValues(t *testing.T) {
	cases := []struct {
		s    string
		want api.Value
	}{
		{"null", null()},
		{"true", truth(true)},
		{"false", truth(false)},
		{"0", number(0)},
		{"7", number(7)},
		{"-12", number(-12)},
		{"4611686018427387903", number(api.MaxBig)},
		{"-4611686018427387903", number(-api.MaxBig)},
		{`""`, text("")},
		{`"a b"`, text("a b")},
		{`"null"`, text("null")},
		{`"[1]"`, text("[1]")},
		{"[]", list()},
		{"{}", object(nil)},
	}
	for _, c := range cases {
		wantTree(t, c.s, api.Tree{c.want})
	}
}

func TestTreesPutEachValueBehindItsKids(t *testing.T) {
	wantTree(t, `[1, "a"]`, api.Tree{number(1), text("a"), list(0, 1)})
	wantTree(t, `[[1,2],3]`, api.Tree{number(1), number(2), list(0, 1), number(3), list(2, 3)})
	wantTree(t, `[1,[2,[]],null]`, api.Tree{number(1), number(2), list(), list(1, 2), null(), list(0, 3, 4)})
	wantTree(t, `{"a":1}`, api.Tree{number(1), object(names("a"), 0)})
	wantTree(t, `{"b":[true,false],"a":{"b":{}}}`, api.Tree{
		truth(true), truth(false), list(0, 1), object(nil), object(names("b"), 3), object(names("b", "a"), 2, 4)})
	wantTree(t, `[{"":0},{"":0}]`, api.Tree{number(0), object(names(""), 0), number(0), object(names(""), 2), list(1, 3)})
}

func TestNamesKeepTheOrderOfTheText(t *testing.T) {
	var pairs, order []string
	for i := range 200 {
		name := num.Text(i * 7 % 200)
		order = append(order, name)
		pairs = append(pairs, `"`+name+`":`+name)
	}
	tree, _, e := Parse([]byte("{" + strings.Join(pairs, ",") + "}"))
	if e != api.OK || len(tree) != 201 || !reflect.DeepEqual(tree[200].Names, order) {
		t.Fatalf("%d values, error %d", len(tree), e)
	}
	for i, kid := range tree[200].Kids {
		if num.Text(tree[kid].Num) != order[i] {
			t.Errorf("name %s has the kid %d", order[i], tree[kid].Num)
		}
	}
}

func TestBlanksAreGoneOver(t *testing.T) {
	want := api.Tree{number(1), list(), object(nil), object(names("a", "b", "c"), 0, 1, 2)}
	parts := []string{"{", `"a"`, ":", "1", ",", `"b"`, ":", "[", "]", ",", `"c"`, ":", "{", "}", "}"}
	for _, blank := range []string{"", " ", "\t", "\n", "\r", " \t\r\n \n"} {
		wantTree(t, blank+strings.Join(parts, blank)+blank, want)
	}
	for _, other := range []string{"\v", "\f", "\x00", "\x1f", "\x7f", "\u0085", "\u00a0", "\u2028", "\ufeff"} {
		whole := strings.Join(parts, "")
		at := 0
		for _, p := range parts {
			wantFault(t, whole[:at]+other+whole[at:], at, api.ErrByte)
			at += len(p)
		}
		wantFault(t, whole+other, at, api.ErrByte)
	}
}

// TestBytesThatBeginAValue: of every byte, whether it begins a value.
func TestBytesThatBeginAValue(t *testing.T) {
	for c := range 256 {
		s := "[" + string([]byte{byte(c)})
		want := faulty{s, 1, api.ErrByte}
		switch {
		case c == ']':
			wantRead(t, s, 1)
			continue
		case strings.IndexByte(" \t\n\rntf\"[{0123456789", byte(c)) >= 0:
			want = faulty{s, 2, api.ErrEnd}
		case c == '-':
			want = faulty{s, 1, api.ErrNumber}
		}
		wantFault(t, s, want.at, want.code)
	}
}

func TestWordsAreReadLetterByLetter(t *testing.T) {
	for _, w := range []string{"null", "true", "false"} {
		for i := 1; i < len(w); i++ {
			wantFault(t, w[:i], i, api.ErrEnd)
			for _, other := range []string{"x", " ", "]", "\"", "\xff", strings.ToUpper(w[i:])} {
				wantFault(t, w[:i]+other, i, api.ErrByte)
			}
		}
		wantFault(t, w+"x", len(w), api.ErrByte)
		wantFault(t, strings.ToUpper(w), 0, api.ErrByte)
	}
	wantFault(t, "[truefalse]", 5, api.ErrByte)
}

func TestNumbersAreWhole(t *testing.T) {
	wrong := []string{"1.5", "1e3", "01", "-0", "-", "--1", "-01", "00", "1-", "1+2", "1.", "1E", "0e0", "0.0", "1e", "-e", "1--", "-.",
		"4611686018427387904", "-4611686018427387904", "9223372036854775808", strings.Repeat("9", 30), "-" + strings.Repeat("9", 60000)}
	for _, s := range wrong {
		wantFault(t, s, 0, api.ErrNumber)
		wantFault(t, "  "+s+" ", 2, api.ErrNumber)
		wantFault(t, "[0,"+s+"]", 3, api.ErrNumber)
		wantFault(t, `{"a":`+s, 5, api.ErrNumber)
	}
	for _, s := range []string{"+1", ".5", "e1", "E"} {
		wantFault(t, s, 0, api.ErrByte)
	}
	for _, s := range []string{"1a", "1_0", "1x", "1\"", "1[", "1:", "0x10", "1\x00", "1\xff"} {
		wantFault(t, s, 1, api.ErrByte)
	}
}

// TestNumbersOfAllShortTexts: a number is as num.Parse reads it, whatever stands behind it.
func TestNumbersOfAllShortTexts(t *testing.T) {
	const letters = "019-+.eE"
	short := []string{""}
	for i := 0; len(short[i]) < 4; i++ {
		for _, l := range letters {
			short = append(short, short[i]+string(l))
		}
	}
	for _, s := range short[1:] {
		if strings.IndexByte("+.eE", s[0]) >= 0 {
			wantFault(t, s, 0, api.ErrByte)
			continue
		}
		n, e := num.Parse(s)
		if e != api.OK {
			wantFault(t, "["+s+",", 1, api.ErrNumber)
			continue
		}
		wantTree(t, s, api.Tree{number(n)})
		wantTree(t, "["+s+"]", api.Tree{number(n), list(0)})
	}
}

func TestListsAndTheirFaults(t *testing.T) {
	wantFaults(t, []faulty{
		{"[", 1, api.ErrEnd}, {"[ ", 2, api.ErrEnd}, {"[1", 2, api.ErrEnd}, {"[1,", 3, api.ErrEnd}, {"[1, ", 4, api.ErrEnd}, {"[[]", 3, api.ErrEnd},
		{"[1 2]", 3, api.ErrByte}, {"[1,]", 3, api.ErrByte}, {"[,]", 1, api.ErrByte}, {"[,1]", 1, api.ErrByte}, {"[1,,2]", 3, api.ErrByte},
		{"[1}", 2, api.ErrByte}, {"[}", 1, api.ErrByte}, {"[1:2]", 2, api.ErrByte}, {"[:", 1, api.ErrByte}, {`["a":1]`, 4, api.ErrByte},
		{"[[]", 3, api.ErrEnd}, {"[] ]", 3, api.ErrByte}, {"[][]", 2, api.ErrByte}, {"]", 0, api.ErrByte},
	})
}

func TestObjectsAndTheirFaults(t *testing.T) {
	wantFaults(t, []faulty{
		{"{", 1, api.ErrEnd}, {"{ ", 2, api.ErrEnd}, {`{"`, 2, api.ErrEnd}, {`{"a`, 3, api.ErrEnd}, {`{"a"`, 4, api.ErrEnd}, {`{"a" `, 5, api.ErrEnd},
		{`{"a":`, 5, api.ErrEnd}, {`{"a":1`, 6, api.ErrEnd}, {`{"a":1,`, 7, api.ErrEnd}, {`{"a":1,"b"`, 10, api.ErrEnd},
		{"{1:2}", 1, api.ErrByte}, {"{a:2}", 1, api.ErrByte}, {"{null:2}", 1, api.ErrByte}, {"{[]:2}", 1, api.ErrByte}, {"{,}", 1, api.ErrByte}, {"{:1}", 1, api.ErrByte},
		{`{"a"}`, 4, api.ErrByte}, {`{"a",1}`, 4, api.ErrByte}, {`{"a" 1}`, 5, api.ErrByte}, {`{"a"::1}`, 5, api.ErrByte}, {`{"a":}`, 5, api.ErrByte}, {`{"a":,`, 5, api.ErrByte},
		{`{"a":1,}`, 7, api.ErrByte}, {`{"a":1 "b":2}`, 7, api.ErrByte}, {`{"a":1]`, 6, api.ErrByte}, {`{"a":1:`, 6, api.ErrByte}, {"{]", 1, api.ErrByte},
		{`{"a":1,2}`, 7, api.ErrByte}, {`{"a":1,,"b":2}`, 7, api.ErrByte}, {`{'a':1}`, 1, api.ErrByte}, {"{}}", 2, api.ErrByte}, {"}", 0, api.ErrByte},
	})
}

func TestNamesAreNotThereTwice(t *testing.T) {
	wantFaults(t, []faulty{
		{`{"a":1,"a":2}`, 7, api.ErrTwice},
		{`{"":1, "" :2}`, 7, api.ErrTwice},
		{`{"a":1,"b":2,"c":3,"b":4}`, 19, api.ErrTwice},
		{`{"a":1,"\u0061":2}`, 7, api.ErrTwice},
		{`{"\u0061":1,"a":2}`, 12, api.ErrTwice},
		{"{\"\\ud83d\\uDE00\":1,\"\U0001F600\":2}", 18, api.ErrTwice},
		{"{\"\ufffd\":1,\"\ufffd\":2}", 9, api.ErrTwice},
		{`{"\/":1,"/":2}`, 8, api.ErrTwice},
		{`[{"a":1},{"a":{"a":1},"a":1}]`, 22, api.ErrTwice},
		// the name is a fault as soon as it ends, whatever stands behind it
		{`{"a":1,"a"`, 7, api.ErrTwice},
		{`{"a":1,"a"x`, 7, api.ErrTwice},
		{`{"a":1,"a":x`, 7, api.ErrTwice},
		// and not ahead of its end
		{`{"a":1,"a`, 9, api.ErrEnd},
		{`{"a":1,"a\x":2}`, 9, api.ErrEscape},
	})
	// other names, and the same name of another object
	wantRead(t, `{"a":1,"A":2,"a ":3,"aa":4,"\u0000":5,"":6}`, 7)
	wantRead(t, `{"a":{"a":{"a":1}},"b":[{"a":1},{"a":1}]}`, 9)
	wantRead(t, "{\"\u00e9\":1,\"e\u0301\":2}", 3)
}

func TestBehindTheWhole(t *testing.T) {
	for _, s := range []string{"null", "true", "false", "12", `"a"`, "[1]", `{"a":1}`} {
		tree, _, _ := Parse([]byte(s))
		wantTree(t, s+" \t\n\r", tree)
		wantFault(t, s+" x", len(s)+1, api.ErrByte)
		wantFault(t, s+"\n,", len(s)+1, api.ErrByte)
		wantFault(t, s+" 1", len(s)+1, api.ErrByte)
		wantFault(t, s+" \xff", len(s)+1, api.ErrByte)
		wantFault(t, s+" \x00", len(s)+1, api.ErrByte)
		wantFault(t, s+" "+s, len(s)+1, api.ErrByte)
	}
	wantFaults(t, []faulty{{"", 0, api.ErrEnd}, {" \n ", 3, api.ErrEnd}, {"1 x", 2, api.ErrByte}})
}

// TestWhichFaultGoesFirst: two faults stand in each text.
func TestWhichFaultGoesFirst(t *testing.T) {
	wantFaults(t, []faulty{
		{"[x,01]", 1, api.ErrByte},
		{"[01,x]", 1, api.ErrNumber},
		{"[01", 1, api.ErrNumber},
		{"[1.5", 1, api.ErrNumber},
		{"-", 0, api.ErrNumber},
		{"01x", 0, api.ErrNumber},
		{"1x1.5", 1, api.ErrByte},
		{"[nul,", 4, api.ErrByte},
		{"\"\xff\\x", 1, api.ErrUTF},
		{"\"\\x\xff", 1, api.ErrEscape},
		{"\"\x01\xff", 1, api.ErrByte},
		{"\"a\xff", 2, api.ErrUTF},
		{"\"\xe2\x82", 1, api.ErrUTF},
		{"{\"a\":1,\"a\xff\":2}", 9, api.ErrUTF},
		{`{"a":1,"a":01}`, 7, api.ErrTwice},
		{`{"a":01,"a":1}`, 5, api.ErrNumber},
		{`{"b":{"a":1,"a":1},"b":1}`, 12, api.ErrTwice},
		{strings.Repeat("[", 17) + "x", 16, api.ErrDeep},
		{strings.Repeat("[", 16) + "x" + "[", 16, api.ErrByte},
		{strings.Repeat("[", 16), 16, api.ErrEnd},
		{"[[[1]]" + strings.Repeat("[", 17), 6, api.ErrByte},
	})
}

// TestGrammarAgainstTheLibrary: of all short rows of parts, where their first fault is.
func TestGrammarAgainstTheLibrary(t *testing.T) {
	parts := []string{"[", "]", "{", "}", ",", ":", " ", "1", `"a"`, `"b`, "null", "x"}
	rows := []string{""}
	for from, length := 0, 0; length < 5; length++ {
		end := len(rows)
		for ; from < end; from++ {
			for _, p := range parts {
				rows = append(rows, rows[from]+p)
			}
		}
	}
	for _, s := range rows {
		againstLibrary(t, s)
	}
}

// againstLibrary holds a text, whose numbers are whole and whose strings have no faults, against the library's reader.
func againstLibrary(t *testing.T, s string) {
	t.Helper()
	var v any
	var syntax *std.SyntaxError
	err := std.Unmarshal([]byte(s), &v)
	tree, at, e := Parse([]byte(s))
	switch {
	case e == api.ErrTwice: // the library takes them
	case err == nil:
		if e != api.OK || at != 0 || !reflect.DeepEqual(goValue(tree, len(tree)-1), v) {
			t.Errorf("%q: %v %d %d, want %v", s, tree, at, e, v)
		}
	case !errors.As(err, &syntax):
		t.Fatalf("%q: %v", s, err)
	case strings.HasPrefix(err.Error(), "unexpected end"):
		if tree != nil || at != len(s) || e != api.ErrEnd {
			t.Errorf("%q: %v %d %d, want ErrEnd", s, tree, at, e)
		}
	default:
		if tree != nil || at != int(syntax.Offset)-1 || e != api.ErrByte {
			t.Errorf("%q: %v %d %d, want ErrByte at %d", s, tree, at, e, syntax.Offset-1)
		}
	}
}

// goValue is a value of a tree as the library makes it.
func goValue(tree api.Tree, place int) any {
	switch v := tree[place]; v.Kind {
	case api.Bool:
		return v.Truth
	case api.Number:
		return float64(v.Num)
	case api.String:
		return v.Text
	case api.List:
		l := make([]any, 0)
		for _, k := range v.Kids {
			l = append(l, goValue(tree, k))
		}
		return l
	case api.Object:
		m := map[string]any{}
		for i, k := range v.Kids {
			m[v.Names[i]] = goValue(tree, k)
		}
		return m
	}
	return nil
}

// randomText is the text of some value, at most so deep, and its tree's values, put behind the others.
func randomText(r *rand.Rand, deep int, tree *api.Tree) string {
	kinds := 6
	if deep == 0 {
		kinds = 4
	}
	s, v := "", api.Value{}
	switch r.Intn(kinds) {
	case 0:
		s, v = "null", null()
	case 1:
		s, v = "true", truth(true)
	case 2:
		n := int(r.Uint64()>>(2+r.Intn(60))) - int(r.Uint64()>>(2+r.Intn(60)))
		s, v = num.Text(n), number(n)
	case 3:
		l := string(rune(0x20 + r.Intn(2)*0x3000 + r.Intn(2)))
		s, v = `"`+l+`"`, text(l)
	case 4:
		v = list()
		for range r.Intn(5) {
			s += "," + gap(r) + randomText(r, deep-1, tree) + gap(r)
			v.Kids = append(v.Kids, len(*tree)-1)
		}
		s = "[" + gap(r) + strings.TrimPrefix(s, ",") + "]"
	default:
		v = object(nil)
		for i := range r.Intn(5) {
			v.Names = append(v.Names, num.Text(i))
			s += "," + gap(r) + `"` + num.Text(i) + `"` + gap(r) + ":" + gap(r) + randomText(r, deep-1, tree) + gap(r)
			v.Kids = append(v.Kids, len(*tree)-1)
		}
		s = "{" + gap(r) + strings.TrimPrefix(s, ",") + "}"
	}
	*tree = append(*tree, v)
	return s
}

func gap(r *rand.Rand) string {
	return strings.Repeat(" ", r.Intn(2)) + strings.Repeat("\n", r.Intn(2))
}

func TestTreesOfManyTexts(t *testing.T) {
	r := rand.New(rand.NewSource(2))
	for range 2000 {
		var want api.Tree
		s := gap(r) + randomText(r, 5, &want) + gap(r)
		wantTree(t, s, want)
	}
}

// TestTextsThatEndAtEachPlace: a text of which all is right as far as it goes is a fault at its end, unless it is whole.
func TestTextsThatEndAtEachPlace(t *testing.T) {
	whole := " {\"a\" : [ null , true,false, 10, \"b\\n\\u00e9\\ud83d\\ude00\u20ac\" ] , \"\\u0062\":{ } , \"c\":[ ], \"d\":-7 } "
	halves := strings.Index(whole, `\ud83d`)
	euro := strings.Index(whole, "\u20ac")
	minus := strings.Index(whole, "-7")
	for i := range len(whole) - 1 {
		switch want := (faulty{whole[:i], i, api.ErrEnd}); {
		case i == halves+6 || i == halves+7:
			wantFault(t, want.s, halves, api.ErrEscape)
		case i == euro+1 || i == euro+2:
			wantFault(t, want.s, euro, api.ErrUTF)
		case i == minus+1:
			wantFault(t, want.s, minus, api.ErrNumber)
		default:
			wantFault(t, want.s, want.at, want.code)
		}
	}
	wantRead(t, whole[:len(whole)-1], 10)
	wantRead(t, whole, 10)
}
