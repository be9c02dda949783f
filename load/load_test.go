package load

import (
	"math"
	"slices"
	"testing"

	"haulier/api"
)

// filled: n amounts with which nothing is wrong.
func filled(n int) []int {
	l := make([]int, n)
	for i := range l {
		l[i] = 10 + i
	}
	return l
}

// with: n amounts with which nothing is wrong, but for the one at this place.
func with(n, at, amount int) []int {
	l := filled(n)
	l[at] = amount
	return l
}

// brief: a list, or the beginning of a long one, to be told.
func brief(l []int) []int { return l[:min(len(l), 8)] }

// checks: does Check answer this error?
func checks(t *testing.T, a []int, n int, want api.Errno) {
	t.Helper()
	if e := Check(a, n); e != want {
		t.Errorf("P9.1: Check(%v, %d): %d, want %d", brief(a), n, e, want)
	}
}

// lawful: amounts at and beside the limits that may be.
func lawful() []int { return []int{0, 1, 2, 999998, 999999, api.MaxNumber} }

// unlawful: amounts that may not be, the ones beside the limits first.
func unlawful() []int {
	return []int{-1, api.MaxNumber + 1, -2, api.MaxNumber + 2, -api.MaxNumber, 2 * api.MaxNumber, 1 << 32, -1 << 32,
		api.MaxBig, -api.MaxBig, api.MaxBig + 1, -api.MaxBig - 1, math.MaxInt - 1, math.MinInt + 1, math.MaxInt, math.MinInt}
}

func TestLimits(t *testing.T) {
	if api.MaxDims != 3 || api.MaxNumber != 1000000 || api.MaxBig != 4611686018427387903 {
		t.Errorf("MaxDims %d, MaxNumber %d, MaxBig %d", api.MaxDims, api.MaxNumber, api.MaxBig)
	}
}

func TestExamples(t *testing.T) {
	sums(t, "Add", Add, []int{1, 2}, []int{3, 4}, []int{4, 6}, api.OK)
	sums(t, "Sub", Sub, []int{1}, []int{3}, []int{-2}, api.OK)
	sums(t, "Most", Most, []int{1, 5}, []int{3, 4}, []int{3, 5}, api.OK)
	compares(t, []int{1, 2}, []int{1, 2}, true, true)
	compares(t, []int{1}, []int{1, 2}, false, false)
	checks(t, []int{1, -1}, 2, api.ErrRange)
	checks(t, []int{1}, 2, api.ErrSize)
}

func TestZero(t *testing.T) {
	cases := []struct {
		n    int
		want []int
	}{
		{0, nil}, {1, []int{0}}, {2, []int{0, 0}}, {3, []int{0, 0, 0}},
		{4, nil}, {5, nil}, {6, nil}, {100, nil}, {1 << 32, nil}, {1<<32 + 1, nil}, {1<<40 + 3, nil},
		{-1, nil}, {-2, nil}, {-3, nil}, {-4, nil}, {-1 << 32, nil}, {1 - 1<<32, nil},
		{api.MaxBig, nil}, {math.MaxInt - 1, nil}, {math.MaxInt, nil}, {math.MinInt, nil}, {math.MinInt + 1, nil}, {math.MinInt + 3, nil},
	}
	for _, c := range cases {
		if got := Zero(c.n); !slices.Equal(got, c.want) {
			t.Errorf("P9.1: Zero(%d): %v, want %v", c.n, got, c.want)
		}
	}
}

// TestCheckOfZero: what Zero makes is lawful in so many dimensions, and in no other number of them.
func TestCheckOfZero(t *testing.T) {
	for n := 0; n <= api.MaxDims; n++ {
		for m := -1; m <= api.MaxDims+1; m++ {
			want := api.ErrSize
			if m == n {
				want = api.OK
			}
			checks(t, Zero(n), m, want)
		}
	}
}

// TestCheckOfNumbers: n numbers each; of MaxDims Check says nothing, so that longer lists are asked too.
func TestCheckOfNumbers(t *testing.T) {
	for _, n := range []int{1, 2, api.MaxDims, api.MaxDims + 1, 7, 1000} {
		checks(t, filled(n), n, api.OK)
		for _, at := range places(n) {
			for _, amount := range lawful() {
				checks(t, with(n, at, amount), n, api.OK)
			}
			for _, amount := range unlawful() {
				checks(t, with(n, at, amount), n, api.ErrRange)
			}
		}
	}
}

// places: those of a list, or of a long one the first and the last.
func places(n int) []int {
	var l []int
	for i := range n {
		if i < 7 || i >= n-3 {
			l = append(l, i)
		}
	}
	return l
}

func TestCheckOfOtherLengths(t *testing.T) {
	for length := range 6 {
		for _, n := range []int{-1, -2, 0, 1, 2, 3, 4, 5, 6, -length, length + 1<<32, length - 1<<32, math.MinInt, math.MinInt + length, math.MaxInt} {
			want := api.ErrSize
			if n == length {
				want = api.OK
			}
			checks(t, filled(length), n, want)
		}
	}
	checks(t, nil, 0, api.OK)
	checks(t, []int{}, 0, api.OK)
	for _, n := range []int{-1, 1, api.MaxDims, math.MinInt, math.MaxInt} {
		checks(t, nil, n, api.ErrSize)
		checks(t, []int{}, n, api.ErrSize)
	}
}

// TestCheckOfTheLengthFirst: of a list of another length with a number that may not be, it is the length that is told.
func TestCheckOfTheLengthFirst(t *testing.T) {
	for length := 1; length <= 5; length++ {
		for at := range length {
			for _, amount := range unlawful() {
				for _, n := range []int{-1, 0, length - 1, length + 1, at, math.MinInt, math.MaxInt} {
					checks(t, with(length, at, amount), n, api.ErrSize)
				}
			}
		}
	}
}

// TestCheckOfSpareRoom: what stands behind a list's end isn't of the list.
func TestCheckOfSpareRoom(t *testing.T) {
	whole := []int{-1, 5, 6, -1, api.MaxNumber + 1}
	checks(t, whole[1:3], 2, api.OK)
	checks(t, whole[1:3], 3, api.ErrSize)
	checks(t, whole[1:3], 4, api.ErrSize)
	checks(t, whole[1:1], 0, api.OK)
	checks(t, whole[:0], 1, api.ErrSize)
}

// TestCheckOfAllShortLists: held against what the chapter says of the whole list.
func TestCheckOfAllShortLists(t *testing.T) {
	numbers := []int{0, 1, api.MaxNumber, -1, api.MaxNumber + 1, math.MinInt, math.MaxInt}
	for _, a := range lists(numbers, api.MaxDims) {
		for n := -1; n <= api.MaxDims+1; n++ {
			want := api.OK
			if len(a) != n {
				want = api.ErrSize
			} else if n > 0 && (slices.Min(a) < 0 || slices.Max(a) > api.MaxNumber) {
				want = api.ErrRange
			}
			checks(t, a, n, want)
		}
	}
}

// lists: all lists of these numbers, up to this length.
func lists(numbers []int, most int) [][]int {
	all := [][]int{nil}
	longest := all
	for range most {
		var longer [][]int
		for _, l := range longest {
			for _, n := range numbers {
				longer = append(longer, append(slices.Clone(l), n))
			}
		}
		all, longest = append(all, longer...), longer
	}
	return all
}
