package json

import (
	"regexp"
	"strconv"
	"strings"
	"testing"
	"unicode/utf16"
	"unicode/utf8"

	"haulier/api"
)

func TestStringsHoldTheirRunes(t *testing.T) {
	for _, s := range []string{"", "a", " ", "\x7f", "a/b", "'", "\u0080", "\u00e9", "\u07ff", "\u0800", "\u20ac", "\ud7ff", "\ue000", "\ufffd", "\uffff", "\U00010000", "\U0001F600", "\U0010ffff", "e\u0301"} {
		wantTree(t, `"`+s+`"`, api.Tree{text(s)})
		wantTree(t, `{"`+s+`":"x`+s+`y"}`, api.Tree{text("x" + s + "y"), object(names(s), 0)})
	}
}

func TestEveryRuneStandsForItself(t *testing.T) {
	for from := rune(' '); from <= utf8.MaxRune; from += 4096 {
		var s []byte
		for l := from; l < from+4096 && l <= utf8.MaxRune; l++ {
			if utf8.ValidRune(l) && l != '"' && l != '\\' {
				s = utf8.AppendRune(s, l)
			}
		}
		wantTree(t, `"`+string(s)+`"`, api.Tree{text(string(s))})
	}
}

func TestBytesBelowTwentyAreFaults(t *testing.T) {
	for c := range 0x20 {
		b := string([]byte{byte(c)})
		wantFault(t, `"`+b+`"`, 1, api.ErrByte)
		wantFault(t, `"ab`+b, 3, api.ErrByte)
		wantFault(t, `{"a`+b+`":1}`, 3, api.ErrByte)
	}
}

func TestBytesThatAreNoUTF8(t *testing.T) {
	wrong := []string{
		"\x80", "\xbf", "\xc0", "\xc1", "\xf5", "\xfe", "\xff", // never the first byte of a rune
		"\xc3", "\xe2\x82", "\xf0\x9f\x98", "\xc3a", "\xe2\x82a", "\xf0\x9f\x98a", "\xe2a", // a rune that isn't whole
		"\xc0\x80", "\xc1\xbf", "\xe0\x80\x80", "\xe0\x9f\xbf", "\xf0\x80\x80\x80", "\xf0\x8f\xbf\xbf", // overlong
		"\xed\xa0\x80", "\xed\xaf\xbf", "\xed\xb0\x80", "\xed\xbf\xbf", "\xed\xa0\xbd\xed\xb8\x80", // halves
		"\xf4\x90\x80\x80", "\xf4\xbf\xbf\xbf", "\xf8\x88\x80\x80\x80", // beyond the last rune
	}
	for _, s := range wrong {
		wantFault(t, `"`+s+`"`, 1, api.ErrUTF)
		wantFault(t, `"`+s, 1, api.ErrUTF)
		wantFault(t, "\"a\u20ac"+s+`"`, 5, api.ErrUTF)
		wantFault(t, `{"`+s+`":1}`, 2, api.ErrUTF)
	}
}

// TestPairsOfBytes: of every two bytes, what the library says of their runes.
func TestPairsOfBytes(t *testing.T) {
	for first := 0x20; first < 256; first++ {
		for second := 0x20; second < 256; second++ {
			s := string([]byte{byte(first), byte(second)})
			if strings.ContainsAny(s, `"\`) {
				continue
			}
			if utf8.ValidString(s) {
				wantTree(t, `"`+s+`"`, api.Tree{text(s)})
				continue
			}
			at := 1
			if first < 0x80 {
				at = 2
			}
			wantFault(t, `"`+s+`"`, at, api.ErrUTF)
		}
	}
}

func TestEscapes(t *testing.T) {
	cases := []struct{ s, want string }{
		{`\"`, "\""}, {`\\`, "\\"}, {`\/`, "/"}, {`\b`, "\b"}, {`\f`, "\f"}, {`\n`, "\n"}, {`\r`, "\r"}, {`\t`, "\t"},
		{`\\\"`, "\\\""}, {`\\n`, "\\n"}, {`a\"b`, "a\"b"}, {`\n\n`, "\n\n"},
		{`\u0000`, "\x00"}, {`\u0041`, "A"}, {`\u000a`, "\n"}, {`\u001F`, "\x1f"}, {`\u0022`, "\""}, {`\u005c`, "\\"}, {`\u005cn`, "\\n"},
		{`\u00e9`, "\u00e9"}, {`\u00E9`, "\u00e9"}, {`\u20AC`, "\u20ac"}, {`\uABCD`, "\uabcd"}, {`\uabcd`, "\uabcd"}, {`\uef01`, "\uef01"},
		{`\ud7ff`, "\ud7ff"}, {`\ue000`, "\ue000"}, {`\uD7FF`, "\ud7ff"}, {`\ufffd`, "\ufffd"}, {`\uffff`, "\uffff"}, {`\u00411`, "A1"},
		{`\ud800\udc00`, "\U00010000"}, {`\udbff\udfff`, "\U0010ffff"}, {`\ud83d\ude00`, "\U0001F600"}, {`\uD83D\uDE00`, "\U0001F600"},
		{`\ud800\udfff`, "\U000103ff"}, {`\udbff\udc00`, "\U0010fc00"}, {`\ud83d\ude00\ud83d\ude01`, "\U0001F600\U0001F601"}, {`x\ud83d\ude00y`, "x\U0001F600y"},
	}
	for _, c := range cases {
		wantTree(t, `"`+c.s+`"`, api.Tree{text(c.want)})
		wantTree(t, `{"`+c.s+`":null}`, api.Tree{null(), object(names(c.want), 0)})
	}
}

func TestEscapesOfEveryByte(t *testing.T) {
	for c := range 256 {
		s := `["` + "\\" + string([]byte{byte(c)})
		switch {
		case strings.IndexByte(`"\/bfnrtu`, byte(c)) >= 0:
			wantFault(t, s, len(s), api.ErrEnd)
		default:
			wantFault(t, s, 2, api.ErrEscape)
			wantFault(t, s+`"]`, 2, api.ErrEscape)
		}
	}
}

func TestDigitsOfEscapes(t *testing.T) {
	for place := range 4 {
		for c := range 256 {
			digits := []byte("0041")
			digits[place] = byte(c)
			s := `"\u` + string(digits) + `"`
			n, err := strconv.ParseUint(string(digits), 16, 32)
			switch {
			case err != nil || strings.Contains(string(digits), "_"):
				wantFault(t, s, 1, api.ErrEscape)
				wantFault(t, s[:4+place], 1, api.ErrEscape) // at once, though the text ends
			case utf16.IsSurrogate(rune(n)):
				wantFault(t, s, 1, api.ErrEscape)
			default:
				wantTree(t, s, api.Tree{text(string(rune(n)))})
			}
		}
	}
}

// TestEveryEscapeOfFourDigits: all runes that have one, in both cases; halves stand alone.
func TestEveryEscapeOfFourDigits(t *testing.T) {
	for l := range rune(0x10000) {
		digits := strconv.FormatInt(0x10000+int64(l), 16)[1:]
		if utf16.IsSurrogate(l) {
			wantFault(t, `"a\u`+digits+`"`, 2, api.ErrEscape)
			continue
		}
		wantTree(t, `"\u`+digits+`\u`+strings.ToUpper(digits)+`"`, api.Tree{text(string([]rune{l, l}))})
	}
}

func TestHalvesOfRunes(t *testing.T) {
	wantFaults(t, []faulty{
		{`"\ud800"`, 1, api.ErrEscape}, {`"\udc00"`, 1, api.ErrEscape}, {`"\udfff"`, 1, api.ErrEscape}, {`"\udbff"`, 1, api.ErrEscape},
		{`"ab\ud800cd"`, 3, api.ErrEscape}, {`"\ud800\n"`, 1, api.ErrEscape}, {`"\ud800\x"`, 1, api.ErrEscape}, {`"\ud800\\udc00"`, 1, api.ErrEscape},
		{`"\ud800udc00"`, 1, api.ErrEscape}, {`"\ud800 \udc00"`, 1, api.ErrEscape}, {"\"\\ud800\xff", 1, api.ErrEscape}, {"\"\\ud800\x01", 1, api.ErrEscape},
		{`"\ud800\ud800"`, 1, api.ErrEscape}, {`"\ud800\u0041"`, 1, api.ErrEscape}, {`"\ud800\ue000"`, 1, api.ErrEscape}, {`"\ud800\udbff"`, 1, api.ErrEscape},
		{`"\udc00\ud800"`, 1, api.ErrEscape}, {`"\udc00\udc00"`, 1, api.ErrEscape}, {`"\ud800\udc00\udc00"`, 13, api.ErrEscape}, {`"\ud800\udc00\ud800"`, 13, api.ErrEscape},
		{`"\ud800\uzzzz"`, 1, api.ErrEscape}, {`"\ud800\udc0g"`, 1, api.ErrEscape}, {`"\ud800\udc0"`, 1, api.ErrEscape},
		// a wrong first half is told ahead of what is wrong behind it
		{`"\udc00\x"`, 1, api.ErrEscape}, {`"\udc00`, 1, api.ErrEscape},
	})
}

func TestEscapesWithinWhichTheTextEnds(t *testing.T) {
	wantFaults(t, []faulty{
		{`"`, 1, api.ErrEnd}, {`"\`, 2, api.ErrEnd}, {`"\u`, 3, api.ErrEnd}, {`"\u0`, 4, api.ErrEnd}, {`"\u00`, 5, api.ErrEnd}, {`"\u004`, 6, api.ErrEnd}, {`"\u0041`, 7, api.ErrEnd},
		{`"\n`, 3, api.ErrEnd}, {`"\ud8`, 5, api.ErrEnd}, {`"\ud80`, 6, api.ErrEnd},
		// behind a first half
		{`"\ud800`, 1, api.ErrEscape}, {`"\ud800\`, 1, api.ErrEscape}, {`"\ud800"`, 1, api.ErrEscape},
		{`"\ud800\u`, 9, api.ErrEnd}, {`"\ud800\ud`, 10, api.ErrEnd}, {`"\ud800\udc`, 11, api.ErrEnd}, {`"\ud800\udc0`, 12, api.ErrEnd}, {`"\ud800\udc00`, 13, api.ErrEnd},
		{`"\ud800\u004`, 12, api.ErrEnd}, // that it is no second half shows only with its last digit
		// a wrong digit goes ahead of the end
		{`"\u0x`, 1, api.ErrEscape}, {`"\ux`, 1, api.ErrEscape}, {`"\ud800\ux`, 1, api.ErrEscape}, {`"\u"`, 1, api.ErrEscape}, {`"\u004"`, 1, api.ErrEscape},
	})
}

// part is what a string may go on with: a whole rune, or a fault at the part's place or at the text's end.
type part struct {
	form  *regexp.Regexp
	code  api.Errno
	ended bool
}

// parts: the first one that fits holds.
func parts() []part {
	const first, second, four = `\\u[dD][89abAB][0-9a-fA-F]{2}`, `\\u[dD][c-fC-F][0-9a-fA-F]{2}`, `\\u[0-9a-fA-F]{4}`
	form := func(s string) *regexp.Regexp { return regexp.MustCompile(`^(?:` + s + `)`) }
	return []part{
		{form(`\\$`), api.ErrEnd, true},
		{form(`\\u[0-9a-fA-F]{0,3}$`), api.ErrEnd, true},
		{form(first + `\\u[0-9a-fA-F]{0,3}$`), api.ErrEnd, true},
		{form(first + second), api.OK, false},
		{form(first + `|` + second), api.ErrEscape, false},
		{form(four), api.OK, false},
		{form(`\\["\\/bfnrt]`), api.OK, false},
		{form(`\\`), api.ErrEscape, false},
		{form(`.`), api.OK, false},
		{form(`$`), api.ErrEnd, true},
	}
}

// stringFault: the first fault of a text of one string, as its parts tell it.
func stringFault(s string, parts []part) (int, api.Errno) {
	at := 1
	for at == len(s) || s[at] != '"' {
		for _, p := range parts {
			m := p.form.FindString(s[at:])
			if m == "" && !(p.ended && p.form.MatchString(s[at:])) {
				continue
			}
			if p.ended {
				return len(s), p.code
			}
			if p.code != api.OK {
				return at, p.code
			}
			at += len(m)
			break
		}
	}
	if at+1 < len(s) {
		return at + 1, api.ErrByte
	}
	return 0, api.OK
}

func TestAllShortRowsOfEscapes(t *testing.T) {
	const letters = `\ud8c0"ng`
	rows := []string{""}
	for i := 0; len(rows[i]) < 5; i++ {
		for _, l := range letters {
			rows = append(rows, rows[i]+string(l))
		}
	}
	forms := parts()
	for _, begin := range []string{`"`, `"\ud83d`, `"\ud83d\u`} {
		for _, row := range rows {
			at, e := stringFault(begin+row, forms)
			tree, gotAt, got := Parse([]byte(begin + row))
			if gotAt != at || got != e || (e == api.OK) != (len(tree) == 1) {
				t.Errorf("%q: %d %d, want %d %d", begin+row, gotAt, got, at, e)
			}
		}
	}
}
