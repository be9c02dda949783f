package load

import (
	"math"
	"slices"
	"sync"
	"testing"

	"haulier/api"
)

// scribble: writes over a list, and over its spare room.
func scribble(l []int) {
	l = l[:cap(l)]
	for i := range l {
		l[i] = -77
	}
}

// pairs: two lists each, as calls may be handed them: sums that are made, that are too big, and other lengths.
func pairs() [][2][]int {
	return [][2][]int{
		{{}, {}}, {{1}, {2}}, {{5, 0, 7}, {0, 6, 7}}, {{1, 2, 3}, {0, 0, 0}}, {{0, 0, 0}, {1, 2, 3}}, {{9, 9}, {1, 1}}, {filled(50), filled(50)},
		{{1, api.MaxBig}, {1, 1}}, {{1, -1}, {1, api.MaxBig + 1}}, {{math.MinInt, 1}, {1, math.MinInt}},
		{{1}, {}}, {{}, {1}}, {{1, 2}, {1, 2, 3}}, {{-1, math.MaxInt, 3}, {1, 2}},
	}
}

// asked: every call with two lists.
func asked(a, b []int) {
	for _, k := range kinds() {
		k.call(a, b)
	}
	Under(a, b)
	Same(a, b)
	Check(a, len(b))
	Check(b, len(b))
}

// TestArgumentsStay: neither a list nor what stands around it is changed.
func TestArgumentsStay(t *testing.T) {
	for _, p := range pairs() {
		before := slices.Concat([]int{31, 32}, p[0], []int{33, 34, 35, 36}, p[1], []int{37, 38, 39})
		whole := slices.Clone(before)
		a := whole[2 : 2+len(p[0])]
		b := whole[len(a)+6 : len(a)+6+len(p[1])]
		asked(a, b)
		asked(b, a)
		asked(a, a)
		if !slices.Equal(whole, before) {
			t.Errorf("R6: %v became %v", before, whole)
		}
	}
}

// TestAnswersAreNew: an answered list that is written over, spare room too, changes neither what was handed in nor another answer.
func TestAnswersAreNew(t *testing.T) {
	for _, p := range pairs() {
		for _, k := range kinds() {
			k.answersNew(t, p[0], p[1])
			k.answersNew(t, p[0], p[0])
		}
	}
}

func (k kind) answersNew(t *testing.T, first, second []int) {
	t.Helper()
	a := append(make([]int, 0, len(first)+3), first...)
	b := append(make([]int, 0, len(second)+3), second...)
	copy(a[len(a):cap(a)], []int{41, 42, 43})
	copy(b[len(b):cap(b)], []int{51, 52, 53})
	want, e := k.wanted(first, second)
	one, _ := k.call(a, b)
	other, _ := k.call(a, b)
	scribble(one)
	if !slices.Equal(other, want) {
		t.Errorf("R6: %s(%v, %v): a second answer became %v", k.name, first, second, other)
	}
	sums(t, k.name, k.call, a, b, want, e)
	if !slices.Equal(a[:cap(a)], append(slices.Clone(first), 41, 42, 43)) || !slices.Equal(b[:cap(b)], append(slices.Clone(second), 51, 52, 53)) {
		t.Errorf("R6: %s(%v, %v): its answer shares memory with what was handed in: %v, %v", k.name, first, second, a[:cap(a)], b[:cap(b)])
	}
}

// TestAnswersOfOneListTwice: of a list with itself too the answer is another list.
func TestAnswersOfOneListTwice(t *testing.T) {
	for _, k := range kinds() {
		a := []int{4, 5, 6}
		got, _ := k.call(a, a)
		scribble(got)
		if !slices.Equal(a, []int{4, 5, 6}) {
			t.Errorf("R6: %s of a list with itself: it became %v", k.name, a)
		}
	}
}

// TestArgumentsAreNotKept: an answer stays, whatever becomes of what was handed in.
func TestArgumentsAreNotKept(t *testing.T) {
	for _, p := range pairs() {
		for _, k := range kinds() {
			a, b := slices.Clone(p[0]), slices.Clone(p[1])
			want, _ := k.wanted(a, b)
			got, _ := k.call(a, b)
			scribble(a)
			scribble(b)
			if !slices.Equal(got, want) {
				t.Errorf("R6: %s(%v, %v) became %v", k.name, p[0], p[1], got)
			}
		}
	}
}

func TestZerosAreApart(t *testing.T) {
	for n := -1; n <= api.MaxDims+1; n++ {
		one, other := Zero(n), Zero(n)
		scribble(one)
		for _, l := range [][]int{other, Zero(n)} {
			for _, amount := range l {
				if amount != 0 {
					t.Errorf("R6: Zero(%d), behind another that was written over: %v", n, l)
				}
			}
		}
	}
}

// TestNothingBesideAnError: the list is none, though the first dimensions have sums.
func TestNothingBesideAnError(t *testing.T) {
	for _, p := range pairs() {
		for _, k := range kinds() {
			if got, e := k.call(p[0], p[1]); e != api.OK && len(got) != 0 {
				t.Errorf("R3: %s(%v, %v): %v beside %d", k.name, p[0], p[1], got, e)
			}
		}
	}
}

// TestSameAgain: what was asked before, errors too, changes no answer.
func TestSameAgain(t *testing.T) {
	for range 3 {
		for _, p := range pairs() {
			asked(p[1], p[0])
			for _, k := range kinds() {
				want, e := k.wanted(p[0], p[1])
				sums(t, k.name, k.call, p[0], p[1], want, e)
			}
			compares(t, p[0], p[0], true, true)
			checks(t, p[0], len(p[0])+1, api.ErrSize)
		}
	}
}

// TestAllAtOnce: calls of several goroutines on the same lists don't touch each other.
func TestAllAtOnce(t *testing.T) {
	all := pairs()
	var wait sync.WaitGroup
	for range 8 {
		wait.Go(func() {
			for _, p := range all {
				for _, k := range kinds() {
					want, e := k.wanted(p[0], p[1])
					sums(t, k.name, k.call, p[0], p[1], want, e)
				}
				scribble(Zero(api.MaxDims))
				checks(t, Zero(api.MaxDims), api.MaxDims, api.OK)
			}
		})
	}
	wait.Wait()
}

// TestLongLists: no call minds a list's length.
func TestLongLists(t *testing.T) {
	const long = 1 << 20
	a := filled(long)
	checks(t, a, long, api.ErrRange) // the last ones are above MaxNumber
	checks(t, make([]int, long), long, api.OK)
	compares(t, a, a, true, true)
	compares(t, a, with(long, long-1, 0), false, false)
	compares(t, with(long, long-1, 0), a, true, false)
	for _, k := range kinds() {
		want, e := k.wanted(a, a)
		sums(t, k.name, k.call, a, a, want, e)
		sums(t, k.name, k.call, a, a[1:], nil, api.ErrSize)
	}
	sums(t, "Add", Add, with(long, long-1, api.MaxBig), a, nil, api.ErrBig)
	sums(t, "Sub", Sub, a, with(long, long-1, math.MinInt), nil, api.ErrBig)
}
