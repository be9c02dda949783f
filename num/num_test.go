package num

import (
	"math"
	"math/big"
	"math/rand"
	"slices"
	"strings"
	"testing"

	"haulier/api"
)

// edges are numbers at and beside every limit that the chapter names, and at those where a product wraps.
func edges() []int {
	middles := []int{0, 10, 99, 1 << 30, 1 << 31, 1 << 32, 1<<31 + 1<<20, 3037000499, api.MaxNumber, api.MaxBig / 10, api.MaxBig / 3, api.MaxBig / 2, api.MaxBig, math.MaxInt}
	var l []int
	for _, m := range middles {
		for d := -2; d <= 2; d++ {
			l = append(l, m+d, -m+d) // beyond the greatest int this wraps to the least one: an edge too
		}
	}
	return append(l, math.MinInt, math.MaxInt)
}

// some are the edges and numbers of every length in bits, the same in each run.
func some() []int {
	l := edges()
	r := rand.New(rand.NewSource(1))
	for bits := range 64 {
		for range 4 {
			l = append(l, int(r.Uint64()>>bits), -int(r.Uint64()>>bits))
		}
	}
	return l
}

func fitsBig(n *big.Int) bool {
	return n.CmpAbs(big.NewInt(api.MaxBig)) <= 0
}

// fitted is what a call must answer whose result, without any limit, were n.
func fitted(n *big.Int) (int, api.Errno) {
	if !fitsBig(n) {
		return 0, api.ErrBig
	}
	return int(n.Int64()), api.OK
}

func TestMaxBig(t *testing.T) {
	if api.MaxBig != 4611686018427387903 {
		t.Errorf("MaxBig is %d", api.MaxBig)
	}
}

func TestFits(t *testing.T) {
	cases := []struct {
		a    int
		want bool
	}{
		{0, true}, {1, true}, {-1, true},
		{4611686018427387902, true}, {4611686018427387903, true}, {4611686018427387904, false},
		{-4611686018427387902, true}, {-4611686018427387903, true}, {-4611686018427387904, false}, {-4611686018427387905, false},
		{math.MaxInt, false}, {math.MinInt, false}, {math.MinInt + 1, false},
	}
	for _, c := range cases {
		if got := Fits(c.a); got != c.want {
			t.Errorf("P1.1: Fits(%d): %v", c.a, got)
		}
	}
	for _, a := range some() {
		if got := Fits(a); got != fitsBig(big.NewInt(int64(a))) {
			t.Errorf("P1.1: Fits(%d): %v", a, got)
		}
	}
}

// pair is a call with two numbers, and what it must answer.
type pair struct {
	a, b, want int
	e          api.Errno
}

func checkPairs(t *testing.T, name string, call func(a, b int) (int, api.Errno), cases []pair) {
	t.Helper()
	for _, c := range cases {
		if got, e := call(c.a, c.b); got != c.want || e != c.e {
			t.Errorf("P1.2: %s(%d, %d): %d, %d; wanted %d, %d", name, c.a, c.b, got, e, c.want, c.e)
		}
	}
}

func TestAdd(t *testing.T) {
	checkPairs(t, "Add", Add, []pair{
		{0, 0, 0, api.OK}, {2, 3, 5, api.OK}, {2, -3, -1, api.OK}, {-2, -3, -5, api.OK},
		{api.MaxBig, 0, api.MaxBig, api.OK}, {api.MaxBig - 1, 1, api.MaxBig, api.OK}, {api.MaxBig, -api.MaxBig, 0, api.OK},
		{-api.MaxBig, 0, -api.MaxBig, api.OK}, {1 - api.MaxBig, -1, -api.MaxBig, api.OK},
		{api.MaxBig, 1, 0, api.ErrBig}, {1, api.MaxBig, 0, api.ErrBig}, {api.MaxBig, api.MaxBig, 0, api.ErrBig},
		{-api.MaxBig, -1, 0, api.ErrBig}, {-1, -api.MaxBig, 0, api.ErrBig}, {-api.MaxBig, -api.MaxBig, 0, api.ErrBig},
		// An argument that doesn't fit is refused, though the sum would fit.
		{api.MaxBig + 1, -1, 0, api.ErrBig}, {-1, api.MaxBig + 1, 0, api.ErrBig},
		{-api.MaxBig - 1, 1, 0, api.ErrBig}, {1, -api.MaxBig - 1, 0, api.ErrBig},
		{math.MinInt, math.MinInt, 0, api.ErrBig}, {math.MinInt, math.MaxInt, 0, api.ErrBig}, {math.MaxInt, math.MaxInt, 0, api.ErrBig},
	})
}

func TestMul(t *testing.T) {
	checkPairs(t, "Mul", Mul, []pair{
		{0, 0, 0, api.OK}, {2, 3, 6, api.OK}, {2, -3, -6, api.OK}, {-2, 3, -6, api.OK}, {-2, -3, 6, api.OK},
		{api.MaxBig, 0, 0, api.OK}, {0, -api.MaxBig, 0, api.OK},
		{api.MaxBig, 1, api.MaxBig, api.OK}, {api.MaxBig, -1, -api.MaxBig, api.OK}, {-1, -api.MaxBig, api.MaxBig, api.OK},
		{1 << 31, 1 << 30, 1 << 61, api.OK}, {-1 << 31, 1 << 30, -1 << 61, api.OK}, {-1 << 31, -1 << 30, 1 << 61, api.OK},
		{1<<31 - 1, 1<<31 + 1, api.MaxBig, api.OK}, {1<<31 - 1, -1<<31 - 1, -api.MaxBig, api.OK},
		{1 << 31, 1 << 31, 0, api.ErrBig}, {-1 << 31, 1 << 31, 0, api.ErrBig}, {-1 << 31, -1 << 31, 0, api.ErrBig},
		{1 << 32, 1 << 32, 0, api.ErrBig}, // it wraps to 0
		{api.MaxBig, 2, 0, api.ErrBig}, {api.MaxBig, 4, 0, api.ErrBig}, {api.MaxBig, api.MaxBig, 0, api.ErrBig}, {-api.MaxBig, api.MaxBig, 0, api.ErrBig},
		// An argument that doesn't fit is refused, though the product would fit.
		{api.MaxBig + 1, 0, 0, api.ErrBig}, {0, api.MaxBig + 1, 0, api.ErrBig}, {0, -api.MaxBig - 1, 0, api.ErrBig},
		{math.MinInt, 0, 0, api.ErrBig}, {0, math.MinInt, 0, api.ErrBig}, {math.MinInt, -1, 0, api.ErrBig}, {-1, math.MinInt, 0, api.ErrBig},
		{math.MinInt, math.MinInt, 0, api.ErrBig}, {math.MaxInt, 1, 0, api.ErrBig},
	})
}

func TestAddAndMulAgainstNumbersWithoutLimit(t *testing.T) {
	l := some()
	var add, mul []pair
	for _, a := range l {
		for _, b := range l {
			x, y := big.NewInt(int64(a)), big.NewInt(int64(b))
			sum, product := pair{a, b, 0, api.ErrBig}, pair{a, b, 0, api.ErrBig}
			if fitsBig(x) && fitsBig(y) {
				sum.want, sum.e = fitted(new(big.Int).Add(x, y))
				product.want, product.e = fitted(new(big.Int).Mul(x, y))
			}
			add, mul = append(add, sum), append(mul, product)
		}
	}
	checkPairs(t, "Add", Add, add)
	checkPairs(t, "Mul", Mul, mul)
}

func TestSum(t *testing.T) {
	cases := []struct {
		l    []int
		want int
		e    api.Errno
	}{
		{nil, 0, api.OK}, {[]int{}, 0, api.OK}, {[]int{7}, 7, api.OK}, {[]int{1, 2, -5}, -2, api.OK},
		{[]int{api.MaxBig}, api.MaxBig, api.OK}, {[]int{-api.MaxBig}, -api.MaxBig, api.OK},
		{[]int{api.MaxBig, -1, 1}, api.MaxBig, api.OK}, {[]int{api.MaxBig, -api.MaxBig, -api.MaxBig}, -api.MaxBig, api.OK},
		// One Add on the way is beyond the limit, though the whole would fit.
		{[]int{api.MaxBig, 1, -1}, 0, api.ErrBig}, {[]int{-api.MaxBig, -1, 1}, 0, api.ErrBig},
		{[]int{-1, api.MaxBig, 1, 1, -1}, 0, api.ErrBig},
		{[]int{api.MaxBig + 1}, 0, api.ErrBig}, {[]int{-api.MaxBig - 1}, 0, api.ErrBig},
		{[]int{-5, api.MaxBig + 1}, 0, api.ErrBig}, {[]int{math.MinInt}, 0, api.ErrBig},
		{[]int{math.MaxInt, math.MinInt, 1}, 0, api.ErrBig},
	}
	for _, c := range cases {
		if got, e := Sum(c.l); got != c.want || e != c.e {
			t.Errorf("P1.2: Sum(%v): %d, %d; wanted %d, %d", c.l, got, e, c.want, c.e)
		}
	}
}

func TestSumLeavesItsListAlone(t *testing.T) {
	whole := []int{3, 4, 5, 6}
	if got, e := Sum(whole[:2]); got != 7 || e != api.OK {
		t.Errorf("P1.2: Sum of a list with spare room: %d, %d", got, e)
	}
	if !slices.Equal(whole, []int{3, 4, 5, 6}) {
		t.Errorf("R6: the list is %v now", whole)
	}
}

func TestText(t *testing.T) {
	cases := []struct {
		a    int
		want string
	}{
		{0, "0"}, {7, "7"}, {-7, "-7"}, {10, "10"}, {-10, "-10"}, {1203, "1203"},
		{api.MaxBig, "4611686018427387903"}, {-api.MaxBig, "-4611686018427387903"},
		{api.MaxBig + 1, "4611686018427387904"},
		{math.MaxInt, "9223372036854775807"}, {math.MinInt, "-9223372036854775808"},
	}
	for _, c := range cases {
		if got := Text(c.a); got != c.want {
			t.Errorf("P1.3: Text(%d): %q", c.a, got)
		}
	}
	for _, a := range some() {
		if got, want := Text(a), big.NewInt(int64(a)).String(); got != want {
			t.Errorf("P1.3: Text(%d): %q", a, got)
		}
	}
}

// text is a text to be parsed, and what it must tell.
type text struct {
	s    string
	want int
	e    api.Errno
}

func checkTexts(t *testing.T, cases []text) {
	t.Helper()
	for _, c := range cases {
		if got, e := Parse(c.s); got != c.want || e != c.e {
			t.Errorf("P1.3: Parse(%.60q): %d, %d; wanted %d, %d", c.s, got, e, c.want, c.e)
		}
	}
}

func TestParse(t *testing.T) {
	checkTexts(t, []text{
		{"0", 0, api.OK}, {"1", 1, api.OK}, {"9", 9, api.OK}, {"10", 10, api.OK}, {"-1", -1, api.OK}, {"-12", -12, api.OK}, {"100200", 100200, api.OK},
		{"4611686018427387902", api.MaxBig - 1, api.OK}, {"4611686018427387903", api.MaxBig, api.OK},
		{"-4611686018427387902", 1 - api.MaxBig, api.OK}, {"-4611686018427387903", -api.MaxBig, api.OK},
	})
}

func TestParseRefusesWhatIsNoNumber(t *testing.T) {
	var cases []text
	for _, s := range []string{
		"", "-", "--", "--1", "-0", "00", "007", "01", "-01", "-00", "-007", "+1", "+0", "+",
		"1x", "x", "x1", "1x1", " 1", "1 ", "1-", "1-1", "-1-", "-x", "1.5", "1e3", "1_000", "0x1", "0b1", "1,0",
		"/", ":", "1/", "1:", "\x00", "1\x00", "\xff", "1\xff", "٣", "1٣", "−1", "inf",
	} {
		cases = append(cases, text{s, 0, api.ErrDigits})
	}
	checkTexts(t, cases)
}

func TestParseRefusesWhatIsTooBig(t *testing.T) {
	var cases []text
	for _, s := range []string{
		"4611686018427387904", "4611686018427387910", "4611686018427387999", "9223372036854775807", "9223372036854775808",
		"18446744073709551615", "18446744073709551616", "18446744073709551617", "36893488147419103233",
		strings.Repeat("9", 30), "1" + strings.Repeat("0", 64), "1" + strings.Repeat("0", 100000),
	} {
		cases = append(cases, text{s, 0, api.ErrBig}, text{"-" + s, 0, api.ErrBig})
		// What is no number is told first, however long it is.
		cases = append(cases, text{s + "x", 0, api.ErrDigits}, text{"-" + s + "-", 0, api.ErrDigits}, text{"0" + s, 0, api.ErrDigits}, text{"-0" + s, 0, api.ErrDigits})
	}
	checkTexts(t, cases)
}

func TestParseOfEveryByte(t *testing.T) {
	var cases []text
	for b := range 256 {
		digit := b >= '0' && b <= '9'
		for _, s := range []string{"12" + string([]byte{byte(b)}), "1" + string([]byte{byte(b)}) + "2"} {
			c := text{s, 0, api.ErrDigits}
			if digit {
				n, _ := new(big.Int).SetString(s, 10)
				c = text{s, int(n.Int64()), api.OK}
			}
			cases = append(cases, c)
		}
	}
	checkTexts(t, cases)
}

// numbered tells what Parse must answer, by what the chapter says of each letter rather than by how Parse goes about it.
func numbered(s string) text {
	digits := strings.TrimPrefix(s, "-")
	bare := digits != "" && strings.Trim(digits, "0123456789") == ""
	if !bare || digits[0] == '0' && s != "0" {
		return text{s, 0, api.ErrDigits}
	}
	n, _ := new(big.Int).SetString(s, 10)
	want, e := fitted(n)
	return text{s, want, e}
}

func TestParseOfAllShortTexts(t *testing.T) {
	texts := []string{""}
	var cases []text
	for range 6 {
		var longer []string
		for _, s := range texts {
			cases = append(cases, numbered(s))
			for _, letter := range []string{"-", "0", "1", "9", "x"} {
				longer = append(longer, s+letter)
			}
		}
		texts = longer
	}
	checkTexts(t, cases)
}

func TestParseOfText(t *testing.T) {
	for _, a := range some() {
		got, e := Parse(Text(a))
		want, wantE := fitted(big.NewInt(int64(a)))
		if got != want || e != wantE {
			t.Errorf("P1.4: Parse(Text(%d)): %d, %d", a, got, e)
		}
	}
}

func FuzzParse(f *testing.F) {
	for _, s := range []string{"", "-", "-0", "007", "-12", "4611686018427387903", "-4611686018427387904", strings.Repeat("9", 30)} {
		f.Add(s)
	}
	f.Fuzz(func(t *testing.T, s string) {
		checkTexts(t, []text{numbered(s)})
	})
}
