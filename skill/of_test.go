package skill

import (
	"math"
	"math/rand"
	"slices"
	"testing"

	"haulier/api"
)

// makes: does Of answer this set, this place and this error?
func makes(t *testing.T, list []int, set uint64, at int, want api.Errno) {
	t.Helper()
	if s, i, e := Of(list); s != set || i != at || e != want {
		t.Errorf("P10.1: Of(%v): %#x, %d, %d, want %#x, %d, %d", brief(list), s, i, e, set, at, want)
	}
}

// brief: a list, or the beginning of a long one, to be told.
func brief(l []int) []int { return l[:min(len(l), 70)] }

// wanted: what Of must answer, by the chapter's words: of each number it asks the list ahead anew.
func wanted(list []int) (uint64, int, api.Errno) {
	for i, s := range list {
		if s < 0 || s > 61 {
			return 0, i, api.ErrRange
		}
		if slices.Contains(list[:i], s) {
			return 0, i, api.ErrTwice
		}
	}
	var set uint64
	for bit := range 62 {
		if slices.Contains(list, bit) {
			set += power(bit)
		}
	}
	return set, 0, api.OK
}

// power: the word with just this bit, by doubling.
func power(bit int) uint64 {
	n := uint64(1)
	for range bit {
		n += n
	}
	return n
}

// agrees: does Of answer what the chapter says?
func agrees(t *testing.T, list []int) {
	t.Helper()
	set, at, e := wanted(list)
	makes(t, list, set, at, e)
}

// rising: n skills from this one on.
func rising(from, n int) []int {
	l := make([]int, n)
	for i := range l {
		l[i] = from + i
	}
	return l
}

// falling: the same, from the last one on.
func falling(from, n int) []int {
	l := rising(from, n)
	slices.Reverse(l)
	return l
}

// with: a copy of a list with another number at this place.
func with(list []int, at, n int) []int {
	l := slices.Clone(list)
	l[at] = n
	return l
}

// unlawful: numbers that are no skills; among them such as a shift, or a word of fewer bits, takes for skills.
func unlawful() []int {
	return []int{-1, api.MaxSkill, api.MaxSkill + 1, 64, 65, -2, -62, -63, -64, -65, 127, 128, 192, 255, 256, 1 << 16, 1<<31 - 1, 1 << 31, 1 << 32, 1<<32 + 3, -1 << 32, 3 - 1<<32,
		api.MaxBig, -api.MaxBig, math.MaxInt - 1, math.MaxInt, math.MinInt, math.MinInt + 1, math.MinInt + 3}
}

func TestOfExamples(t *testing.T) {
	makes(t, []int{3, 0}, 9, 0, api.OK)
	makes(t, []int{3, 3}, 0, 1, api.ErrTwice)
	makes(t, []int{62}, 0, 0, api.ErrRange)
}

func TestOfNothing(t *testing.T) {
	for _, l := range [][]int{nil, {}, rising(5, 3)[:0], rising(5, 3)[3:]} {
		makes(t, l, 0, 0, api.OK)
	}
}

// TestOfOne: every number around those that are skills, and the ones far off.
func TestOfOne(t *testing.T) {
	for s := -300; s <= 300; s++ {
		if 0 <= s && s <= 61 {
			makes(t, []int{s}, power(s), 0, api.OK)
		} else {
			makes(t, []int{s}, 0, 0, api.ErrRange)
		}
	}
	for _, s := range unlawful() {
		makes(t, []int{s}, 0, 0, api.ErrRange)
	}
}

func TestOfOrders(t *testing.T) {
	cases := []struct {
		list []int
		set  uint64
	}{
		{[]int{0, 1, 2}, 7}, {[]int{2, 1, 0}, 7}, {[]int{1, 2, 0}, 7}, {[]int{1, 0, 2}, 7}, {[]int{2, 0, 1}, 7}, {[]int{0, 2, 1}, 7},
		{[]int{0, 61}, 1<<61 + 1}, {[]int{61, 0}, 1<<61 + 1}, {[]int{31, 32, 33}, 7 << 31}, {[]int{61, 60}, 3 << 60}, {[]int{5, 61, 0, 40}, 1<<61 + 1<<40 + 33},
		{rising(0, 62), 1<<62 - 1}, {falling(0, 62), 1<<62 - 1}, {rising(1, 61), 1<<62 - 2}, {rising(0, 61), 1<<61 - 1}, {falling(30, 32), 1<<62 - 1<<30},
	}
	for _, c := range cases {
		makes(t, c.list, c.set, 0, api.OK)
	}
}

// TestOfRuns: every run of skills, rising and falling.
func TestOfRuns(t *testing.T) {
	for from := range 62 {
		for n := range 62 - from + 1 {
			var set uint64
			for i := range n {
				set += power(from + i)
			}
			makes(t, rising(from, n), set, 0, api.OK)
			makes(t, falling(from, n), set, 0, api.OK)
		}
	}
}

// TestOfRange: a number that is no skill, at each place of lists that are right but for it.
func TestOfRange(t *testing.T) {
	for _, list := range [][]int{rising(0, 1), rising(60, 2), falling(3, 5), {61, 0, 30, 7, 45, 12}, rising(0, 62), falling(0, 62)} {
		for at := range list {
			for _, s := range unlawful() {
				makes(t, with(list, at, s), 0, at, api.ErrRange)
			}
		}
	}
}

// TestOfTwice: a skill that stood ahead, at each two places.
func TestOfTwice(t *testing.T) {
	for _, list := range [][]int{rising(0, 2), rising(60, 2), falling(3, 5), {61, 0, 30, 7, 45, 12}, rising(0, 62), falling(0, 62)} {
		for at := range list {
			for ahead := range at {
				makes(t, with(list, at, list[ahead]), 0, at, api.ErrTwice)
			}
		}
	}
	for s := range 62 {
		makes(t, []int{s, s}, 0, 1, api.ErrTwice)
		makes(t, []int{s, s, s}, 0, 1, api.ErrTwice)
		if s != 20 {
			makes(t, []int{s, 20, s}, 0, 2, api.ErrTwice)
		}
	}
	makes(t, append(rising(0, 62), 17), 0, 62, api.ErrTwice)
}

// TestOfTheFirstWrong: of several wrong numbers the first place is told, and its own error.
func TestOfTheFirstWrong(t *testing.T) {
	makes(t, []int{3, 3, 62}, 0, 1, api.ErrTwice)
	makes(t, []int{3, 62, 3}, 0, 1, api.ErrRange)
	makes(t, []int{62, 3, 3}, 0, 0, api.ErrRange)
	makes(t, []int{3, -1, 3, 62}, 0, 1, api.ErrRange)
	makes(t, []int{1, 2, 2, 1}, 0, 2, api.ErrTwice) // 1 stands ahead of 2, but 2 comes again first
	makes(t, []int{1, 2, 1, 2}, 0, 2, api.ErrTwice)
	makes(t, []int{4, 4, 4, 4}, 0, 1, api.ErrTwice)
	makes(t, []int{62, 62}, 0, 0, api.ErrRange) // it is wrong ahead of coming again
	makes(t, []int{5, -1, -1}, 0, 1, api.ErrRange)
	makes(t, []int{math.MaxInt, math.MinInt}, 0, 0, api.ErrRange)
	makes(t, []int{0, 64}, 0, 1, api.ErrRange) // no word bends 64 to 0
	makes(t, []int{1, 65}, 0, 1, api.ErrRange)
	list := rising(0, 62)
	for at := range list {
		for later := at + 1; later < len(list); later++ {
			for _, s := range []int{-1, 62, math.MinInt, math.MaxInt} {
				makes(t, with(with(list, at, s), later, s), 0, at, api.ErrRange)
				makes(t, with(with(list, at, s), later, list[later-1]), 0, at, api.ErrRange)
				if at > 0 {
					makes(t, with(with(list, at, list[0]), later, s), 0, at, api.ErrTwice)
				}
			}
		}
	}
}

// TestOfShortLists: all lists of a few numbers, held against the chapter's words.
func TestOfShortLists(t *testing.T) {
	longest := [][]int{nil}
	for range 5 {
		var longer [][]int
		for _, l := range longest {
			agrees(t, l)
			for _, n := range []int{0, 1, 30, 61, 62, -1, math.MinInt, math.MaxInt} {
				longer = append(longer, append(slices.Clone(l), n))
			}
		}
		longest = longer
	}
	for _, l := range longest {
		agrees(t, l)
	}
}

// TestOfDrawnLists: mixed skills, some with a number that is wrong, the same in each run.
func TestOfDrawnLists(t *testing.T) {
	r := rand.New(rand.NewSource(10))
	for round := range 20000 {
		l := r.Perm(62)[:r.Intn(63)]
		for range round % 3 {
			if len(l) > 0 {
				l[r.Intn(len(l))] = r.Intn(70) - 4
			}
		}
		agrees(t, l)
	}
}

// TestOfLongLists: a list's length is no error of its own.
func TestOfLongLists(t *testing.T) {
	const long = 1 << 20
	makes(t, make([]int, long), 0, 1, api.ErrTwice)
	makes(t, append(rising(0, 62), make([]int, long)...), 0, 62, api.ErrTwice)
	makes(t, rising(0, long), 0, 62, api.ErrRange)
	makes(t, falling(0, long), 0, 0, api.ErrRange)
}

// TestOfSpareRoom: what stands around a list isn't of the list.
func TestOfSpareRoom(t *testing.T) {
	whole := []int{3, 3, 5, 5, 62, -1}
	makes(t, whole[1:3], 40, 0, api.OK)
	makes(t, whole[3:4], 32, 0, api.OK)
	makes(t, whole[4:4], 0, 0, api.OK)
	makes(t, whole[2:5], 0, 1, api.ErrTwice)
	makes(t, whole[3:6], 0, 1, api.ErrRange)
}
