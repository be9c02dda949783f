package hours

import (
	"math"
	"slices"
	"sync"
	"testing"

	"haulier/api"
)

// scribble: writes over a list, and over its spare room.
func scribble(l []api.Window) {
	l = l[:cap(l)]
	for i := range l {
		l[i] = api.Window{From: -77, To: -78}
	}
}

// unlawful: lists that Check refuses.
func unlawful() [][]api.Window {
	const least, most = math.MinInt, math.MaxInt
	return [][]api.Window{
		nil, {}, spans(-1, 3), spans(5, 1000001), spans(9, 5), spans(least, most), spans(most, least), spans(least, least), spans(most, most),
		spans(5, 9, 9, 12), spans(20, 30, 5, 9), spans(5, 9, 5, 9), spans(0, 9, 20, 10, 30, 40), spans(least, most, least, most, most, least, most, least),
		spans(0, 1, 3, 4, 6, 7, 9, 10, 12, 13), spans(12, 13, 9, 10, 6, 7, 3, 4, 0, 1), make([]api.Window, 1000),
	}
}

// handed: lists as the calls may be handed them, right and wrong ones.
func handed() [][]api.Window { return append(lawful(), unlawful()...) }

// callAll: each call on a list, at times around it.
func callAll(l []api.Window) {
	Check(l)
	for _, at := range []int{math.MinInt, -1, 0, 4, 5, 9, 10, 19, 25, 31, 1000000, 1000001, math.MaxInt} {
		Start(l, at)
		Last(l, at)
		In(l, at)
	}
}

// TestArgumentsStay: neither a list nor what stands around it is changed.
func TestArgumentsStay(t *testing.T) {
	for _, l := range handed() {
		before := slices.Concat(spans(50, 40, 7, 6), l, spans(3, 2, 90, 1, -5, -9))
		whole := slices.Clone(before)
		callAll(whole[2 : 2+len(l)])
		if !slices.Equal(whole, before) {
			t.Errorf("R6: %v became %v", brief(before), brief(whole))
		}
	}
}

// TestArgumentsAreNotKept: what was handed in is written over, and nothing else changes.
func TestArgumentsAreNotKept(t *testing.T) {
	for _, l := range handed() {
		one := slices.Clone(l)
		callAll(one)
		scribble(one)
		agrees(t, l)
	}
	for _, l := range lawful() {
		one := slices.Clone(l)
		callAll(one)
		scribble(one)
		for _, at := range around(l) {
			tells(t, l, at)
		}
	}
}

// TestWritesAreSeen: a list that was asked, written over and is asked again is another one.
func TestWritesAreSeen(t *testing.T) {
	l := spans(5, 9, 20, 30)
	callAll(l)
	l[0], l[1] = api.Window{From: 1, To: 2}, api.Window{From: 4, To: 4}
	checks(t, l, -1, api.OK)
	starts(t, l, 3, 4, true)
	lasts(t, l, 99, 4, true)
	lies(t, l, 9, false)
	l[1] = api.Window{From: 2, To: 4}
	checks(t, l, 1, api.ErrRange)
}

// TestNothingBesideFalse: no time where there is none, though there are windows on the other side.
func TestNothingBesideFalse(t *testing.T) {
	for _, l := range lawful() {
		starts(t, l, l[len(l)-1].To+1, 0, false)
		starts(t, l, math.MaxInt, 0, false)
		lasts(t, l, l[0].From-1, 0, false)
		lasts(t, l, math.MinInt, 0, false)
	}
}

// TestNilAndEmpty: they mean the same; no time lies in no window.
func TestNilAndEmpty(t *testing.T) {
	for _, l := range [][]api.Window{nil, {}, spans(5, 9)[:0], spans(5, 9)[1:]} {
		checks(t, l, -1, api.ErrSize)
		for _, at := range []int{math.MinInt, -1, 0, 7, 1000000, math.MaxInt} {
			starts(t, l, at, 0, false)
			lasts(t, l, at, 0, false)
			lies(t, l, at, false)
		}
	}
}

// TestCallsEnd: no call panics, whatever windows and times it is handed.
func TestCallsEnd(t *testing.T) {
	for _, l := range handed() {
		callAll(l)
		for _, at := range around(l) {
			Start(l, at)
			Last(l, at)
			In(l, at)
		}
	}
	eachList([]int{math.MinInt, -1, 0, 7, 1000000, math.MaxInt}, 2, callAll)
	callAll(make([]api.Window, 1<<20))
}

// TestSameAgain: what was asked before, errors too, changes no answer.
func TestSameAgain(t *testing.T) {
	for range 3 {
		for _, l := range handed() {
			agrees(t, l)
			tells(t, spans(5, 9, 20, 30), 10)
			callAll(l)
			tells(t, spans(0, 0), 1)
			checks(t, spans(5, 9), -1, api.OK)
		}
	}
}

// TestAllAtOnce: calls of several goroutines on the same lists don't touch each other.
func TestAllAtOnce(t *testing.T) {
	right, all := lawful(), handed()
	var wait sync.WaitGroup
	for range 8 {
		wait.Go(func() {
			for _, l := range all {
				agrees(t, l)
				callAll(l)
			}
			for _, l := range right {
				for _, at := range around(l) {
					tells(t, l, at)
				}
			}
		})
	}
	wait.Wait()
}
