package hours

import (
	"math"
	"math/rand"
	"slices"
	"testing"

	"haulier/api"
)

// checks: does Check answer this place and this error?
func checks(t *testing.T, l []api.Window, at int, want api.Errno) {
	t.Helper()
	if i, e := Check(l); i != at || e != want {
		t.Errorf("P11.1: Check(%v): %d, %d, want %d, %d", brief(l), i, e, at, want)
	}
}

// brief: a list, or the beginning of a long one, to be told.
func brief(l []api.Window) []api.Window { return l[:min(len(l), 8)] }

// spans: windows from pairs of numbers.
func spans(ends ...int) []api.Window {
	var l []api.Window
	for i := 0; i+1 < len(ends); i += 2 {
		l = append(l, api.Window{From: ends[i], To: ends[i+1]})
	}
	return l
}

// wrong: is something wrong with the window at this place, by the chapter's words one by one?
func wrong(l []api.Window, i int) bool {
	switch {
	case l[i].From < 0:
		return true
	case l[i].To > 1000000:
		return true
	case l[i].From > l[i].To:
		return true
	case i > 0:
		return !(l[i].From > l[i-1].To)
	}
	return false
}

// wanted: what Check must answer, by the chapter's words.
func wanted(l []api.Window) (int, api.Errno) {
	if len(l) == 0 || len(l) > 4 {
		return -1, api.ErrSize
	}
	for i := range l {
		if wrong(l, i) {
			return i, api.ErrRange
		}
	}
	return -1, api.OK
}

// agrees: does Check answer what the chapter says?
func agrees(t *testing.T, l []api.Window) {
	t.Helper()
	at, e := wanted(l)
	checks(t, l, at, e)
}

// with: a copy of a list with another window at this place.
func with(l []api.Window, at, from, to int) []api.Window {
	l = slices.Clone(l)
	l[at] = api.Window{From: from, To: to}
	return l
}

// lawful: lists of one up to four windows with nothing wrong: wide and narrow ones, such as stand close, and such as lie at both ends.
func lawful() [][]api.Window {
	return [][]api.Window{
		spans(5, 9), spans(0, 0), spans(1, 1), spans(0, 1000000), spans(1000000, 1000000), spans(999999, 1000000), spans(7, 7),
		spans(5, 9, 20, 30), spans(0, 0, 1, 1), spans(0, 5, 6, 1000000), spans(0, 999999, 1000000, 1000000), spans(0, 0, 1000000, 1000000),
		spans(5, 9, 10, 12, 14, 20), spans(0, 0, 2, 2, 4, 4), spans(0, 1, 500000, 500000, 999999, 1000000),
		spans(5, 9, 20, 30, 40, 40, 50, 60), spans(0, 0, 1, 1, 2, 2, 3, 3), spans(0, 10, 12, 20, 22, 30, 32, 1000000), spans(999997, 999997, 999998, 999998, 999999, 999999, 1000000, 1000000), spans(0, 249999, 250000, 499999, 500000, 749999, 750000, 1000000),
	}
}

func TestLimits(t *testing.T) {
	if api.MaxWindows != 4 || api.MaxNumber != 1000000 {
		t.Errorf("MaxWindows %d, MaxNumber %d", api.MaxWindows, api.MaxNumber)
	}
}

func TestCheckExample(t *testing.T) {
	checks(t, spans(5, 9, 9, 12), 1, api.ErrRange)
	checks(t, spans(5, 9, 20, 30), -1, api.OK)
}

func TestCheckLawful(t *testing.T) {
	for _, l := range lawful() {
		checks(t, l, -1, api.OK)
	}
}

// TestCheckSize: no window, or more than four; what stands in them doesn't matter then.
func TestCheckSize(t *testing.T) {
	whole := spans(5, 9, 20, 30)
	for _, l := range [][]api.Window{nil, {}, whole[:0], whole[2:], make([]api.Window, 0, 9)} {
		checks(t, l, -1, api.ErrSize)
	}
	many := spans(0, 1, 3, 4, 6, 7, 9, 10, 12, 13, 15, 16, 18, 19)
	for n := 1; n <= len(many); n++ {
		if n <= 4 {
			checks(t, many[:n], -1, api.OK)
		} else {
			checks(t, many[:n], -1, api.ErrSize)
		}
	}
	for at := range 5 {
		for _, w := range []api.Window{{From: -1, To: 1}, {From: 9, To: 5}, {From: 0, To: 1000001}, {From: math.MinInt, To: math.MaxInt}} {
			checks(t, with(many[:5], at, w.From, w.To), -1, api.ErrSize)
		}
	}
	for _, n := range []int{5, 6, 8, 256, 260, 1 << 16, 1<<16 + 1, 1 << 20} {
		checks(t, make([]api.Window, n), -1, api.ErrSize)
	}
}

// TestCheckOne: a single window of every two numbers around the bounds.
func TestCheckOne(t *testing.T) {
	edges := []int{math.MinInt, math.MinInt + 1, -1 << 32, -1000000, -2, -1, 0, 1, 2, 500000, 999999, 1000000, 1000001, 1000002, 1<<32 + 1, 1 << 62, math.MaxInt - 1, math.MaxInt}
	for _, from := range edges {
		for _, to := range edges {
			if 0 <= from && from <= to && to <= 1000000 {
				checks(t, spans(from, to), -1, api.OK)
			} else {
				checks(t, spans(from, to), 0, api.ErrRange)
			}
		}
	}
}

// TestCheckBoundsAtEachPlace: From below 0, To above MaxNumber, From above To, and the ends of int, at each place of lists that are right but for it.
func TestCheckBoundsAtEachPlace(t *testing.T) {
	const least, most = math.MinInt, math.MaxInt
	bad := [][2]int{{-1, 0}, {-1, 1000000}, {-1, -1}, {-2, -1}, {least, 0}, {least, least}, {least, most}, {least, 1000000}, {least + 1, 1000001}, {-1, most},
		{1000000, 1000001}, {1000001, 1000001}, {999999, most}, {0, 1000001}, {0, most}, {most, most}, {most - 1, most},
		{1000000, 999999}, {1, 0}, {0, -1}, {0, least}, {1000000, least}, {1000000, 0}, {most, least}, {most, 0}, {most, 1000000}, {1000001, 1000000}}
	for _, l := range lawful() {
		for at := range l {
			for _, w := range bad {
				checks(t, with(l, at, w[0], w[1]), at, api.ErrRange)
			}
			checks(t, with(l, at, -1, l[at].To), at, api.ErrRange)
			checks(t, with(l, at, least, l[at].To), at, api.ErrRange)
			checks(t, with(l, at, l[at].From, 1000001), at, api.ErrRange)
			checks(t, with(l, at, l[at].From, most), at, api.ErrRange)
			checks(t, with(l, at, l[at].From, l[at].From-1), at, api.ErrRange)
			checks(t, with(l, at, l[at].From, least), at, api.ErrRange)
			checks(t, with(l, at, l[at].To+1, l[at].To), at, api.ErrRange)
			checks(t, with(l, at, most, l[at].To), at, api.ErrRange)
		}
	}
}

// TestCheckBoundsKept: at each place From may be just above the To ahead, and To as far as the window behind allows.
func TestCheckBoundsKept(t *testing.T) {
	for _, l := range lawful() {
		for at := range l {
			from, to := 0, 1000000
			if at > 0 {
				from = l[at-1].To + 1
			}
			if at+1 < len(l) {
				to = l[at+1].From - 1
			}
			checks(t, with(l, at, from, to), -1, api.OK)
			checks(t, with(l, at, from, from), -1, api.OK)
			checks(t, with(l, at, to, to), -1, api.OK)
			checks(t, with(l, at, from-1, to), at, api.ErrRange)
			if at+1 < len(l) {
				checks(t, with(l, at, from, to+1), at+1, api.ErrRange) // the one behind is wrong then
			} else {
				checks(t, with(l, at, from, to+1), at, api.ErrRange)
			}
		}
	}
}

// TestCheckOrder: windows that touch, overlap, lie in each other, are the same, or stand in the wrong order.
func TestCheckOrder(t *testing.T) {
	checks(t, spans(5, 9, 10, 12), -1, api.OK) // no time lies between them, but none in both
	for _, second := range [][2]int{{9, 12}, {9, 9}, {8, 12}, {5, 12}, {4, 12}, {5, 9}, {6, 8}, {5, 5}, {0, 4}, {0, 9}, {0, 1000000}, {4, 4}, {0, 0}} {
		checks(t, spans(5, 9, second[0], second[1]), 1, api.ErrRange)
		checks(t, spans(1, 3, 5, 9, second[0], second[1]), 2, api.ErrRange)
		checks(t, spans(0, 0, 1, 3, 5, 9, second[0], second[1]), 3, api.ErrRange)
		checks(t, spans(5, 9, second[0], second[1], 20, 30, 40, 50), 1, api.ErrRange)
	}
	checks(t, spans(20, 30, 5, 9), 1, api.ErrRange)
	checks(t, spans(5, 9, 20, 30, 10, 12), 2, api.ErrRange) // behind the first one, but not behind the one ahead
	checks(t, spans(40, 50, 20, 30, 35, 38, 60, 70), 1, api.ErrRange)
	for _, l := range lawful() {
		turned := slices.Clone(l)
		slices.Reverse(turned)
		if len(l) > 1 {
			checks(t, turned, 1, api.ErrRange)
		}
	}
}

// TestCheckTheFirstWrong: of several wrong windows the first place is told, whatever is wrong with it.
func TestCheckTheFirstWrong(t *testing.T) {
	checks(t, spans(5, 9, 9, 12, 12, 14), 1, api.ErrRange)
	checks(t, spans(5, 9, 20, 10, 30, 1000001), 1, api.ErrRange)
	checks(t, spans(5, 9, 20, 1000001, -1, 3), 1, api.ErrRange)
	checks(t, spans(9, 5, 0, 3), 0, api.ErrRange)
	checks(t, spans(5, 1000001, -1, 3), 0, api.ErrRange)
	checks(t, spans(5, 9, 10, 12, 12, 14, -1, 3), 2, api.ErrRange)
	checks(t, spans(5, math.MaxInt, math.MinInt, 9), 0, api.ErrRange)
	checks(t, spans(math.MinInt, math.MinInt, math.MinInt, math.MinInt), 0, api.ErrRange)
	list := spans(5, 9, 20, 30, 40, 50, 60, 70)
	bad := [][2]int{{-1, 999}, {0, 1000001}, {80, 79}, {0, math.MaxInt}, {math.MaxInt, math.MinInt}}
	for at := range list {
		for later := at + 1; later < len(list); later++ {
			for _, a := range bad {
				for _, b := range bad {
					checks(t, with(with(list, at, a[0], a[1]), later, b[0], b[1]), at, api.ErrRange)
				}
			}
		}
	}
}

// TestCheckShortLists: all lists of a few numbers, held against the chapter's words.
func TestCheckShortLists(t *testing.T) {
	few := []int{math.MinInt, -1, 0, 1, 2, 999999, 1000000, 1000001, math.MaxInt}
	fewer := []int{-1, 0, 1, 2, 1000000, 1000001}
	for n := range 4 {
		eachList(few, n, func(l []api.Window) { agrees(t, l) })
		if t.Failed() {
			return
		}
	}
	eachList(fewer, 4, func(l []api.Window) {
		if !t.Failed() {
			agrees(t, l)
		}
	})
}

// eachList: hands over each list of n windows whose ends are such numbers.
func eachList(numbers []int, n int, hand func([]api.Window)) {
	l := make([]api.Window, n)
	var fill func(at int)
	fill = func(at int) {
		if at == n {
			hand(l)
			return
		}
		for _, from := range numbers {
			for _, to := range numbers {
				l[at] = api.Window{From: from, To: to}
				fill(at + 1)
			}
		}
	}
	fill(0)
}

// TestCheckDrawnLists: rising windows, some with a number that was moved, the same in each run.
func TestCheckDrawnLists(t *testing.T) {
	r := rand.New(rand.NewSource(11))
	for round := range 20000 {
		l := drawn(r, r.Intn(6))
		for range round % 3 {
			if len(l) > 0 {
				w := &l[r.Intn(len(l))]
				w.From += r.Intn(5) - 2
				w.To += r.Intn(5) - 2
			}
		}
		agrees(t, l)
	}
}

// drawn: n windows that rise, close to each other or far off.
func drawn(r *rand.Rand, n int) []api.Window {
	var l []api.Window
	far := []int{3, 30, 100000}[r.Intn(3)]
	end := -1
	for range n {
		from := end + 1 + r.Intn(far)
		end = from + r.Intn(far)
		l = append(l, api.Window{From: from, To: end})
	}
	return l
}

// TestCheckSpareRoom: what stands around a list isn't of the list.
func TestCheckSpareRoom(t *testing.T) {
	whole := spans(-1, 3, 5, 9, 9, 12, 20, 30, 40, 50, 60, 70, 1000001, 0)
	checks(t, whole[1:2], -1, api.OK)
	checks(t, whole[2:6], -1, api.OK)
	checks(t, whole[1:3], 1, api.ErrRange)
	checks(t, whole[4:7], 2, api.ErrRange)
	checks(t, whole[3:3], -1, api.ErrSize)
	checks(t, whole[2:7], -1, api.ErrSize)
}
