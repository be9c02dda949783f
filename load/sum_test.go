package load

import (
	"math"
	"math/big"
	"math/rand"
	"slices"
	"testing"

	"haulier/api"
	"haulier/num"
)

// sum is the kind of Add, Sub and Most.
type sum func(a, b []int) ([]int, api.Errno)

// sums: does the call answer this list and this error?
func sums(t *testing.T, name string, call sum, a, b, want []int, wantE api.Errno) {
	t.Helper()
	if got, e := call(a, b); e != wantE || !slices.Equal(got, want) {
		t.Errorf("P9.2: %s(%v, %v): %v, %d, want %v, %d", name, brief(a), brief(b), brief(got), e, brief(want), wantE)
	}
}

// compares: do Under and Same answer this?
func compares(t *testing.T, a, b []int, under, same bool) {
	t.Helper()
	if got := Under(a, b); got != under {
		t.Errorf("P9.2: Under(%v, %v): %v", brief(a), brief(b), got)
	}
	if got := Same(a, b); got != same {
		t.Errorf("P9.2: Same(%v, %v): %v", brief(a), brief(b), got)
	}
}

// fitted: the number, if it is from -MaxBig to MaxBig.
func fitted(n *big.Int) (int, api.Errno) {
	if n.CmpAbs(big.NewInt(api.MaxBig)) > 0 {
		return 0, api.ErrBig
	}
	return int(n.Int64()), api.OK
}

// plain: what numbers without limit make of a and b, all three of which must fit.
func plain(of func(z, x, y *big.Int) *big.Int) func(a, b int) (int, api.Errno) {
	return func(a, b int) (int, api.Errno) {
		x, y := big.NewInt(int64(a)), big.NewInt(int64(b))
		for _, n := range []*big.Int{x, y} {
			if _, e := fitted(n); e != api.OK {
				return 0, e
			}
		}
		return fitted(of(new(big.Int), x, y))
	}
}

// kind is one of the three calls, and what it must make of one dimension.
type kind struct {
	name string
	call sum
	one  func(a, b int) (int, api.Errno)
}

func kinds() []kind {
	greater := func(a, b int) (int, api.Errno) {
		if a < b {
			return b, api.OK
		}
		return a, api.OK
	}
	return []kind{
		{"Add", Add, plain((*big.Int).Add)},
		{"Sub", Sub, plain((*big.Int).Sub)},
		{"Most", Most, greater},
	}
}

// wanted: what the call must answer, dimension by dimension.
func (k kind) wanted(a, b []int) ([]int, api.Errno) {
	if len(a) != len(b) {
		return nil, api.ErrSize
	}
	var l []int
	for i := range a {
		n, e := k.one(a[i], b[i])
		if e != api.OK {
			return nil, e
		}
		l = append(l, n)
	}
	return l, api.OK
}

// edges: numbers at and beside 0, MaxNumber, the halves of MaxBig, MaxBig, and the ends of int.
func edges() []int {
	l := []int{math.MinInt, math.MinInt + 1, math.MaxInt - 1, math.MaxInt}
	for _, m := range []int{0, api.MaxNumber, 1 << 32, api.MaxBig / 2, api.MaxBig} {
		for d := -2; d <= 2; d++ {
			l = append(l, m+d, -m+d)
		}
	}
	slices.Sort(l)
	return slices.Compact(l)
}

func TestAdd(t *testing.T) {
	cases := []struct {
		a, b, want []int
		e          api.Errno
	}{
		{[]int{0}, []int{0}, []int{0}, api.OK},
		{[]int{7, -7, 7}, []int{-7, 7, -8}, []int{0, 0, -1}, api.OK},
		{[]int{api.MaxBig, -api.MaxBig}, []int{0, 0}, []int{api.MaxBig, -api.MaxBig}, api.OK},
		{[]int{api.MaxBig - 1, 1 - api.MaxBig}, []int{1, -1}, []int{api.MaxBig, -api.MaxBig}, api.OK},
		{[]int{api.MaxBig, -api.MaxBig}, []int{-api.MaxBig, api.MaxBig}, []int{0, 0}, api.OK},
		{[]int{api.MaxBig}, []int{1}, nil, api.ErrBig},
		{[]int{-1}, []int{-api.MaxBig}, nil, api.ErrBig},
		{[]int{api.MaxBig + 1}, []int{-1}, nil, api.ErrBig}, // though the sum would fit
		{[]int{1}, []int{-api.MaxBig - 1}, nil, api.ErrBig},
		{[]int{math.MinInt}, []int{math.MinInt}, nil, api.ErrBig}, // it wraps to 0
		{[]int{math.MinInt}, []int{math.MaxInt}, nil, api.ErrBig},
		{[]int{1, api.MaxBig}, []int{1, 1}, nil, api.ErrBig},
	}
	for _, c := range cases {
		sums(t, "Add", Add, c.a, c.b, c.want, c.e)
		sums(t, "Add", Add, c.b, c.a, c.want, c.e)
	}
}

func TestSub(t *testing.T) {
	cases := []struct {
		a, b, want []int
		e          api.Errno
	}{
		{[]int{0}, []int{0}, []int{0}, api.OK},
		{[]int{7, -7, 3}, []int{7, 7, 5}, []int{0, -14, -2}, api.OK},
		{[]int{0, 0}, []int{api.MaxBig, -api.MaxBig}, []int{-api.MaxBig, api.MaxBig}, api.OK},
		{[]int{api.MaxBig, -api.MaxBig}, []int{api.MaxBig, -api.MaxBig}, []int{0, 0}, api.OK},
		{[]int{api.MaxBig - 1}, []int{-1}, []int{api.MaxBig}, api.OK},
		{[]int{1 - api.MaxBig}, []int{1}, []int{-api.MaxBig}, api.OK},
		{[]int{api.MaxBig}, []int{-1}, nil, api.ErrBig},
		{[]int{-api.MaxBig}, []int{1}, nil, api.ErrBig},
		{[]int{1}, []int{-api.MaxBig}, nil, api.ErrBig},
		{[]int{-1}, []int{api.MaxBig}, nil, api.ErrBig},
		// One that doesn't fit is refused, though the difference would fit.
		{[]int{api.MaxBig + 1}, []int{1}, nil, api.ErrBig},
		{[]int{1}, []int{api.MaxBig + 1}, nil, api.ErrBig},
		{[]int{-1}, []int{-api.MaxBig - 1}, nil, api.ErrBig},
		{[]int{api.MaxBig + 1}, []int{api.MaxBig + 1}, nil, api.ErrBig},
		{[]int{0}, []int{math.MinInt}, nil, api.ErrBig}, // its opposite wraps to itself
		{[]int{-1}, []int{math.MinInt}, nil, api.ErrBig},
		{[]int{math.MinInt}, []int{math.MinInt}, nil, api.ErrBig},
		{[]int{math.MaxInt}, []int{math.MaxInt}, nil, api.ErrBig},
		{[]int{0}, []int{math.MinInt + 1}, nil, api.ErrBig},
		{[]int{0}, []int{math.MaxInt}, nil, api.ErrBig},
		{[]int{1, 2, 0}, []int{1, 2, api.MaxBig + 1}, nil, api.ErrBig},
	}
	for _, c := range cases {
		sums(t, "Sub", Sub, c.a, c.b, c.want, c.e)
	}
}

func TestMost(t *testing.T) {
	cases := []struct{ a, b, want []int }{
		{[]int{0}, []int{0}, []int{0}},
		{[]int{1, 2, 3}, []int{3, 2, 1}, []int{3, 2, 3}},
		{[]int{-1, -5}, []int{0, -4}, []int{0, -4}},
		{[]int{api.MaxBig, -api.MaxBig}, []int{api.MaxBig - 1, 1 - api.MaxBig}, []int{api.MaxBig, 1 - api.MaxBig}},
		// Nothing is summed, so that numbers which don't fit are no error.
		{[]int{api.MaxBig + 1, 0}, []int{0, -api.MaxBig - 1}, []int{api.MaxBig + 1, 0}},
		{[]int{math.MinInt, math.MinInt, math.MaxInt}, []int{math.MaxInt, math.MinInt, 0}, []int{math.MaxInt, math.MinInt, math.MaxInt}},
		{[]int{math.MinInt, math.MaxInt - 1}, []int{math.MinInt + 1, math.MaxInt}, []int{math.MinInt + 1, math.MaxInt}},
	}
	for _, c := range cases {
		sums(t, "Most", Most, c.a, c.b, c.want, api.OK)
		sums(t, "Most", Most, c.b, c.a, c.want, api.OK)
	}
}

// TestSumsOfOtherLengths: ErrSize, whatever the numbers are, one that is too big for a sum ahead of all too.
func TestSumsOfOtherLengths(t *testing.T) {
	var all [][]int
	for n := range 6 {
		all = append(all, filled(n))
		if n > 0 {
			all = append(all, with(n, 0, math.MinInt), with(n, n-1, api.MaxBig+1))
		}
	}
	all = append(all, []int{}, filled(1000))
	for _, a := range all {
		for _, b := range all {
			if len(a) == len(b) {
				continue
			}
			for _, k := range kinds() {
				sums(t, k.name, k.call, a, b, nil, api.ErrSize)
			}
			compares(t, a, b, false, false)
		}
	}
}

func TestSumsOfNothing(t *testing.T) {
	none := [][]int{nil, {}, filled(3)[:0], filled(3)[3:]}
	for _, a := range none {
		for _, b := range none {
			for _, k := range kinds() {
				sums(t, k.name, k.call, a, b, nil, api.OK)
			}
			compares(t, a, b, true, true)
		}
	}
}

// TestSumsOfEdges: each two edges, at each place of lists of several lengths, longer ones than MaxDims too.
func TestSumsOfEdges(t *testing.T) {
	for _, k := range kinds() {
		for _, a := range edges() {
			for _, b := range edges() {
				n, e := k.one(a, b)
				for length := 1; length <= api.MaxDims+2; length++ {
					for at := range length {
						k.sumsAt(t, length, at, a, b, n, e)
					}
				}
			}
		}
	}
}

// sumsAt: does the call make this of a and b at one place of its lists, and of the others what it makes of plain amounts?
func (k kind) sumsAt(t *testing.T, length, at, a, b, n int, e api.Errno) {
	t.Helper()
	if e != api.OK {
		sums(t, k.name, k.call, with(length, at, a), with(length, at, b), nil, e)
		return
	}
	want := make([]int, length)
	for i := range want {
		want[i], _ = k.one(10+i, 10+i)
	}
	want[at] = n
	sums(t, k.name, k.call, with(length, at, a), with(length, at, b), want, api.OK)
}

// TestAddIsThatOfNum: in each dimension, and Sub that of the opposite.
func TestAddIsThatOfNum(t *testing.T) {
	for _, a := range edges() {
		for _, b := range edges() {
			want := []int{0}
			var e api.Errno
			if want[0], e = num.Add(a, b); e != api.OK {
				want = nil
			}
			sums(t, "Add", Add, []int{a}, []int{b}, want, e)
			if num.Fits(b) {
				sums(t, "Sub", Sub, []int{a}, []int{-b}, want, e)
			}
		}
	}
}

// TestAllShortLists: each two lists of a few numbers, of the same and of other lengths.
func TestAllShortLists(t *testing.T) {
	all := lists([]int{0, 1, -1, api.MaxBig, -api.MaxBig, api.MaxBig + 1, math.MinInt}, api.MaxDims)
	for _, a := range all {
		for _, b := range all {
			if len(a) != len(b) && len(a)+len(b) > 4 {
				continue
			}
			for _, k := range kinds() {
				want, e := k.wanted(a, b)
				sums(t, k.name, k.call, a, b, want, e)
			}
			under := len(a) == len(b)
			same := under
			for i := range a {
				under = under && a[i] <= b[i]
				same = same && a[i] == b[i]
			}
			compares(t, a, b, under, same)
		}
	}
}

func TestUnderAndSame(t *testing.T) {
	cases := []struct {
		a, b        []int
		under, same bool
	}{
		{[]int{1}, []int{1}, true, true}, {[]int{0}, []int{1}, true, false}, {[]int{1}, []int{0}, false, false},
		{[]int{-1}, []int{0}, true, false}, {[]int{0}, []int{-1}, false, false}, {[]int{1}, []int{-1}, false, false}, {[]int{-1}, []int{1}, true, false},
		{[]int{1, 2, 3}, []int{1, 2, 3}, true, true}, {[]int{0, 1, 2}, []int{1, 2, 3}, true, false}, {[]int{2, 3, 4}, []int{1, 2, 3}, false, false},
		// Mixed: lower in one dimension makes no amends for another.
		{[]int{0, 5}, []int{9, 4}, false, false}, {[]int{5, 0}, []int{4, 9}, false, false}, {[]int{0, 4, 0}, []int{9, 3, 9}, false, false},
		{[]int{1, 1, 1}, []int{1, 1, 2}, true, false}, {[]int{1, 1, 2}, []int{1, 1, 1}, false, false}, {[]int{1, 2, 1}, []int{1, 1, 2}, false, false},
		{[]int{1, 2}, []int{2, 1}, false, false}, // the same numbers, but not in the same dimensions
		// The ends of int, whose difference wraps.
		{[]int{math.MinInt}, []int{math.MaxInt}, true, false}, {[]int{math.MaxInt}, []int{math.MinInt}, false, false},
		{[]int{math.MinInt}, []int{1}, true, false}, {[]int{1}, []int{math.MinInt}, false, false}, {[]int{-2}, []int{math.MaxInt}, true, false},
		{[]int{math.MaxInt, math.MinInt}, []int{math.MaxInt, math.MinInt}, true, true}, {[]int{math.MaxInt}, []int{math.MaxInt - 1}, false, false},
		// Other lengths, of which one begins as the other.
		{nil, []int{0}, false, false}, {[]int{}, []int{5}, false, false}, {[]int{0}, nil, false, false}, {[]int{-1}, []int{}, false, false},
		{[]int{1}, []int{1, 2}, false, false}, {[]int{1, 2}, []int{1}, false, false}, {[]int{0, 0}, []int{0, 0, 0}, false, false}, {[]int{0, 0, 0}, []int{0, 0}, false, false},
	}
	for _, c := range cases {
		compares(t, c.a, c.b, c.under, c.same)
	}
}

// TestUnderAndSameAtEachPlace: lists that are the same but for one place.
func TestUnderAndSameAtEachPlace(t *testing.T) {
	for _, n := range []int{1, 2, api.MaxDims, api.MaxDims + 1, 1000} {
		compares(t, filled(n), filled(n), true, true)
		for _, at := range places(n) {
			for _, a := range edges() {
				compares(t, with(n, at, a), with(n, at, a), true, true)
				for _, b := range []int{a - 1, a + 1, -a, 0, math.MinInt, math.MaxInt} {
					compares(t, with(n, at, a), with(n, at, b), a <= b, a == b)
				}
			}
		}
	}
}

// TestDrawnLists: numbers of every length in bits, in lists of any length, the same in each run.
func TestDrawnLists(t *testing.T) {
	r := rand.New(rand.NewSource(9))
	for round := range 20000 {
		a, b := make([]int, r.Intn(7)), make([]int, 0, 7)
		for i := range a {
			a[i] = int(r.Uint64()) >> (1 + r.Intn(63))
			b = append(b, int(r.Uint64())>>(1+r.Intn(63)))
		}
		if round%10 == 0 {
			b = append(b, 1)
		}
		for _, k := range kinds() {
			want, e := k.wanted(a, b)
			sums(t, k.name, k.call, a, b, want, e)
		}
	}
}
