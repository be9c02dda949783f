package hours

import (
	"math"
	"math/rand"
	"slices"
	"testing"

	"haulier/api"
)

// starts: does Start answer this?
func starts(t *testing.T, l []api.Window, at, want int, is bool) {
	t.Helper()
	if s, ok := Start(l, at); s != want || ok != is {
		t.Errorf("P11.2: Start(%v, %d): %d, %v, want %d, %v", l, at, s, ok, want, is)
	}
}

// lasts: does Last answer this?
func lasts(t *testing.T, l []api.Window, at, want int, is bool) {
	t.Helper()
	if s, ok := Last(l, at); s != want || ok != is {
		t.Errorf("P11.2: Last(%v, %d): %d, %v, want %d, %v", l, at, s, ok, want, is)
	}
}

// lies: does In answer this?
func lies(t *testing.T, l []api.Window, at int, is bool) {
	t.Helper()
	if in := In(l, at); in != is {
		t.Errorf("P11.2: In(%v, %d): %v", l, at, in)
	}
}

// within: does a time lie in one of the windows, each asked?
func within(l []api.Window, at int) bool {
	n := 0
	for _, w := range l {
		if w.From <= at && at <= w.To {
			n++
		}
	}
	return n > 0
}

// first: of the time itself and all beginnings the least one at or behind it that lies in a window.
func first(l []api.Window, at int) (int, bool) {
	var found []int
	if within(l, at) {
		found = append(found, at)
	}
	for _, w := range l {
		if w.From >= at {
			found = append(found, w.From)
		}
	}
	if len(found) == 0 {
		return 0, false
	}
	return slices.Min(found), true
}

// final: of the time itself and all ends the greatest one at or ahead of it that lies in a window.
func final(l []api.Window, at int) (int, bool) {
	var found []int
	if within(l, at) {
		found = append(found, at)
	}
	for _, w := range l {
		if w.To <= at {
			found = append(found, w.To)
		}
	}
	if len(found) == 0 {
		return 0, false
	}
	return slices.Max(found), true
}

// tells: do Start, Last and In answer what the chapter says?
func tells(t *testing.T, l []api.Window, at int) {
	t.Helper()
	s, ok := first(l, at)
	starts(t, l, at, s, ok)
	s, ok = final(l, at)
	lasts(t, l, at, s, ok)
	lies(t, l, at, within(l, at))
}

// around: times around each end of the windows, around the bounds, halfway, and at the ends of int.
func around(l []api.Window) []int {
	times := []int{math.MinInt, math.MinInt + 1, -1 << 62, -1 << 32, -1000000, 1000000 + 1<<32, 1 << 62, math.MaxInt - 1, math.MaxInt}
	for _, w := range append(spans(0, 1000000), l...) {
		for d := -3; d <= 3; d++ {
			times = append(times, w.From+d, w.To+d, (w.From+w.To)/2+d)
		}
	}
	return times
}

func TestTimeExamples(t *testing.T) {
	l := spans(5, 9, 20, 30)
	starts(t, l, 7, 7, true)
	starts(t, l, 10, 20, true)
	starts(t, l, 31, 0, false)
	lasts(t, l, 10, 9, true)
	lasts(t, l, 4, 0, false)
	lasts(t, l, 99, 30, true)
	lies(t, l, 9, true)
	lies(t, l, 10, false)
}

// TestTimesOfOne: a window's both ends are in, the times beside them are not.
func TestTimesOfOne(t *testing.T) {
	l := spans(5, 9)
	cases := []struct {
		at, start  int
		starts, in bool
		last       int
		lasts      bool
	}{
		{math.MinInt, 5, true, false, 0, false}, {-1, 5, true, false, 0, false}, {0, 5, true, false, 0, false}, {4, 5, true, false, 0, false},
		{5, 5, true, true, 5, true}, {6, 6, true, true, 6, true}, {8, 8, true, true, 8, true}, {9, 9, true, true, 9, true},
		{10, 0, false, false, 9, true}, {1000000, 0, false, false, 9, true}, {math.MaxInt, 0, false, false, 9, true},
	}
	for _, c := range cases {
		starts(t, l, c.at, c.start, c.starts)
		lasts(t, l, c.at, c.last, c.lasts)
		lies(t, l, c.at, c.in)
	}
}

// TestTimeZero: the time 0, with true, isn't none.
func TestTimeZero(t *testing.T) {
	for _, l := range [][]api.Window{spans(0, 0), spans(0, 0, 2, 2), spans(0, 0, 1, 1000000)} {
		starts(t, l, -1, 0, true)
		starts(t, l, math.MinInt, 0, true)
		starts(t, l, 0, 0, true)
		lasts(t, l, 0, 0, true)
		lasts(t, l, -1, 0, false)
		lasts(t, l, math.MinInt, 0, false)
		lies(t, l, 0, true)
		lies(t, l, -1, false)
	}
	lasts(t, spans(0, 0), math.MaxInt, 0, true)
	starts(t, spans(0, 0), 1, 0, false)
}

// TestTimesBetween: from a gap one goes on to the next window, or back to the one ahead; windows that stand close have none.
func TestTimesBetween(t *testing.T) {
	l := spans(5, 9, 20, 30, 31, 31, 1000000, 1000000)
	for at := 10; at <= 19; at++ {
		starts(t, l, at, 20, true)
		lasts(t, l, at, 9, true)
		lies(t, l, at, false)
	}
	for _, at := range []int{30, 31} {
		starts(t, l, at, at, true)
		lasts(t, l, at, at, true)
		lies(t, l, at, true)
	}
	for _, at := range []int{32, 500000, 999999} {
		starts(t, l, at, 1000000, true)
		lasts(t, l, at, 31, true)
		lies(t, l, at, false)
	}
	starts(t, l, 1000000, 1000000, true)
	starts(t, l, 1000001, 0, false)
	lasts(t, l, 1000001, 1000000, true)
}

// TestTimesOfLawful: every time around each end.
func TestTimesOfLawful(t *testing.T) {
	for _, l := range lawful() {
		for _, at := range around(l) {
			tells(t, l, at)
		}
	}
}

// TestTimesOfAllSmall: all lists that Check allows of the times 0 to 9, at every time, found by going from time to time; at both ends of the day.
func TestTimesOfAllSmall(t *testing.T) {
	for n := 1; n <= 4; n++ {
		eachLawful(n, 0, nil, func(l []api.Window) {
			for _, from := range []int{0, 1000000 - 9} {
				moved := slices.Clone(l)
				for i := range moved {
					moved[i].From += from
					moved[i].To += from
				}
				checks(t, moved, -1, api.OK)
				for at := from - 2; at <= from+11; at++ {
					stepped(t, moved, at, from)
				}
			}
		})
		if t.Failed() {
			return
		}
	}
}

// eachLawful: hands over each list ahead with n more windows of the times from this one to 9.
func eachLawful(n, from int, ahead []api.Window, hand func([]api.Window)) {
	if n == 0 {
		hand(ahead)
		return
	}
	for a := from; a <= 9; a++ {
		for b := a; b <= 9; b++ {
			eachLawful(n-1, b+1, append(slices.Clone(ahead), api.Window{From: a, To: b}), hand)
		}
	}
}

// stepped: do Start, Last and In answer what one finds from time to time, of windows of ten times?
func stepped(t *testing.T, l []api.Window, at, from int) {
	t.Helper()
	start, later := at, false
	for ; start <= from+9; start++ {
		if later = within(l, start); later {
			break
		}
	}
	last, sooner := at, false
	for ; last >= from; last-- {
		if sooner = within(l, last); sooner {
			break
		}
	}
	if !later {
		start = 0
	}
	if !sooner {
		last = 0
	}
	starts(t, l, at, start, later)
	lasts(t, l, at, last, sooner)
	lies(t, l, at, within(l, at))
}

// TestTimesOfDrawn: drawn lists that Check allows, the same in each run.
func TestTimesOfDrawn(t *testing.T) {
	r := rand.New(rand.NewSource(12))
	for range 2000 {
		l := drawn(r, 1+r.Intn(4))
		checks(t, l, -1, api.OK)
		for _, at := range around(l) {
			tells(t, l, at)
		}
		for range 20 {
			tells(t, l, r.Intn(l[len(l)-1].To+3))
		}
	}
}

// TestTimesHangTogether: a time lies in a window just if it is its own Start, and just if it is its own Last.
func TestTimesHangTogether(t *testing.T) {
	for _, l := range lawful() {
		for _, at := range around(l) {
			start, later := Start(l, at)
			last, sooner := Last(l, at)
			in := In(l, at)
			if in != (later && start == at) || in != (sooner && last == at) {
				t.Errorf("P11.2: %v, %d: Start %d, %v, Last %d, %v, In %v", l, at, start, later, last, sooner, in)
			}
			if later && (start < at || !In(l, start)) || sooner && (last > at || !In(l, last)) {
				t.Errorf("P11.2: %v, %d: Start %d, Last %d", l, at, start, last)
			}
		}
	}
}

// TestTimesSpareRoom: what stands around a list isn't of the list.
func TestTimesSpareRoom(t *testing.T) {
	l := spans(0, 3, 5, 9, 20, 30, 40, 50)[1:3]
	starts(t, l, 0, 5, true)
	starts(t, l, 31, 0, false)
	starts(t, l, 40, 0, false)
	lasts(t, l, 3, 0, false)
	lasts(t, l, 50, 30, true)
	lies(t, l, 2, false)
	lies(t, l, 45, false)
}
