package json

import (
	"strings"
	"testing"

	"haulier/api"
)

func TestMaxText(t *testing.T) {
	fill := func(n int) string { return strings.Repeat("a", n) }
	wantTree(t, `"`+fill(65534)+`"`, api.Tree{text(fill(65534))})
	wantTree(t, strings.Repeat(" ", 65535)+"1", api.Tree{number(1)})
	wantTree(t, "1"+strings.Repeat("\n", 65535), api.Tree{number(1)})
	wantFaults(t, []faulty{
		{`"` + fill(65535) + `"`, 65536, api.ErrLong},
		{`"` + fill(65535), 65536, api.ErrEnd},
		{"1" + strings.Repeat(" ", 65536), 65536, api.ErrLong},
		{strings.Repeat(" ", 65536), 65536, api.ErrEnd},
		{strings.Repeat(" ", 65535) + "x", 65535, api.ErrByte},
		{strings.Repeat("[", 200000), 65536, api.ErrLong},
		// whatever else is wrong
		{strings.Repeat("x", 65537), 65536, api.ErrLong},
		{strings.Repeat("\xff", 65537), 65536, api.ErrLong},
		{strings.Repeat(" ", 65537), 65536, api.ErrLong},
		{strings.Repeat("9", 65536), 0, api.ErrNumber},
	})
}

// nest is a text of so many lists, each in the other, around an inner text; every second one is an object, if mixed.
func nest(n int, inner string, mixed bool) string {
	s := inner
	for i := range n {
		if mixed && i%2 == 0 {
			s = `{"a":` + s + `}`
		} else {
			s = "[" + s + "]"
		}
	}
	return s
}

func TestMaxDeep(t *testing.T) {
	for _, mixed := range []bool{false, true} {
		wantRead(t, nest(15, "[]", mixed), 16)
		wantRead(t, nest(15, "{}", mixed), 16)
		wantRead(t, nest(16, "1", mixed), 17)
		wantRead(t, nest(16, `"a"`, mixed), 17)
		for _, inner := range []string{"[]", "{}", "[1]", `{"a":1}`, "[", "{x", "[]]"} {
			wantFault(t, nest(16, inner, mixed), strings.Index(nest(16, "#", mixed), "#"), api.ErrDeep)
		}
	}
	wantFault(t, strings.Repeat("[", 17), 16, api.ErrDeep)
	wantFault(t, strings.Repeat(`{"a":`, 17), 80, api.ErrDeep)
	wantFault(t, strings.Repeat("[ ", 60), 32, api.ErrDeep)
	wantFault(t, strings.Repeat("[", 65536), 16, api.ErrDeep)
}

// TestDepthIsThatOfOneValue: lists that stand beside one another are no deeper for it.
func TestDepthIsThatOfOneValue(t *testing.T) {
	wantRead(t, "["+strings.Repeat("[],", 99)+"{}]", 101)
	half := nest(15, "1", true)
	wantRead(t, "["+half+","+half+","+half+"]", 49)
	wantRead(t, `{"a":`+half+`,"b":`+half+`,"c":1}`, 34)
	wantFault(t, "["+half+","+nest(16, "1", false)+"]", len(half)+2+15, api.ErrDeep)
}

// ones is so many numbers, commas between.
func ones(n int) string { return strings.TrimSuffix(strings.Repeat("1,", n), ",") }

func TestMaxValues(t *testing.T) {
	wantRead(t, "["+ones(8191)+"]", 8192)
	wantRead(t, " ["+ones(8190)+",[]]", 8192)
	wantFaults(t, []faulty{
		// the whole is the first one too many
		{"[" + ones(8192) + "]", 0, api.ErrMany},
		{" \n[" + ones(8192) + "] ", 2, api.ErrMany},
		{`{"a":[` + ones(8191) + "]}", 0, api.ErrMany},
		// a kid is
		{"[" + ones(8192) + ",1]", 16385, api.ErrMany},
		{"[" + ones(8192) + ", -12]", 16386, api.ErrMany},
		{"[" + ones(8192) + ",null]", 16385, api.ErrMany},
		{"[" + ones(8192) + `,"ab"]`, 16385, api.ErrMany},
		{"[" + ones(8192) + ",[]]", 16385, api.ErrMany},
		{"[" + ones(8192) + `,{}]`, 16385, api.ErrMany},
		{"[" + ones(8192) + `,{"a":true}]`, 16390, api.ErrMany},
		{"[" + ones(8191) + ",[1]]", 16383, api.ErrMany},
		{"[" + ones(30000) + "]", 16385, api.ErrMany},
	})
}

// TestTooManyValuesAreToldWhenTheyEnd: what is wrong ahead of a value's end goes first, what is wrong behind it doesn't.
func TestTooManyValuesAreToldWhenTheyEnd(t *testing.T) {
	many := "[" + ones(8192)
	wantFaults(t, []faulty{
		{many, 16384, api.ErrEnd},
		{many + "x", 16384, api.ErrByte},
		{many + "]x", 0, api.ErrMany},
		{many + ",1", 16385, api.ErrMany},
		{many + ",1x", 16385, api.ErrMany},
		{many + ",01", 16385, api.ErrNumber},
		{many + ",nul", 16388, api.ErrEnd},
		{many + ",nux", 16387, api.ErrByte},
		{many + `,"a`, 16387, api.ErrEnd},
		{many + `,"\x"`, 16386, api.ErrEscape},
		{many + ",[", 16386, api.ErrEnd},
		{many + ",[x", 16386, api.ErrByte},
		{many + ",[1", 16386, api.ErrMany},
		{many + `,{"a":1`, 16390, api.ErrMany},
		{many + "," + strings.Repeat("[", 16), 16400, api.ErrDeep},
		{many + "," + strings.Repeat("[", 15), 16400, api.ErrEnd},
	})
}

// TestNamesAreNoValues: a name counts nothing.
func TestNamesAreNoValues(t *testing.T) {
	var pairs []string
	for i := range 8191 {
		pairs = append(pairs, `"`+string(rune(0x100+i))+`":1`)
	}
	wantRead(t, "{"+strings.Join(pairs, ",")+"}", 8192)
	wantFault(t, "{"+strings.Join(pairs, ",")+`,"a":1}`, 0, api.ErrMany)
	s := "{" + strings.Join(pairs, ",") + `,"a":1,"b":2}`
	wantFault(t, s, len(s)-2, api.ErrMany)
}
