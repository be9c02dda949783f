package skill

import (
	"math"
	"math/rand"
	"slices"
	"testing"

	"haulier/api"
)

// words: none, all, every single bit and all but it, all up to it and from it on, and drawn ones; the same in each run.
func words() []uint64 {
	l := []uint64{0, math.MaxUint64, 0x5555555555555555, 0xaaaaaaaaaaaaaaaa, 0x00000000ffffffff, 0xffffffff00000000, 0x8000000000000001, 0xc000000000000000, 0xc000000000000001}
	for bit := range 64 {
		p := power(bit)
		l = append(l, p, math.MaxUint64-p, p-1, math.MaxUint64-(p-1), p|1, p|1<<63)
	}
	r := rand.New(rand.NewSource(10))
	for range 500 {
		a, b, c := r.Uint64(), r.Uint64(), r.Uint64()
		l = append(l, a, a&b, a|b, a&b&c, a|b|c)
	}
	return l
}

// has: is the bit set, by halving?
func has(set uint64, bit int) bool {
	for range bit {
		set /= 2
	}
	return set%2 == 1
}

// members: the numbers of a word's bits, asked one by one.
func members(set uint64) []int {
	var l []int
	for bit := range 64 {
		if has(set, bit) {
			l = append(l, bit)
		}
	}
	return l
}

// lists: do List and Count answer this?
func lists(t *testing.T, set uint64, want []int) {
	t.Helper()
	if got := List(set); !slices.Equal(got, want) {
		t.Errorf("P10.1: List(%#x): %v, want %v", set, got, want)
	}
	if n := Count(set); n != len(want) {
		t.Errorf("P10.1: Count(%#x): %d, want %d", set, n, len(want))
	}
}

// covers: does Covers answer this?
func covers(t *testing.T, have, want uint64, is bool) {
	t.Helper()
	if got := Covers(have, want); got != is {
		t.Errorf("P10.1: Covers(%#x, %#x): %v", have, want, got)
	}
}

// valid: does Valid answer this?
func valid(t *testing.T, set uint64, is bool) {
	t.Helper()
	if got := Valid(set); got != is {
		t.Errorf("P10.1: Valid(%#x): %v", set, got)
	}
}

func TestLimit(t *testing.T) {
	if api.MaxSkill != 62 {
		t.Errorf("MaxSkill %d", api.MaxSkill)
	}
}

func TestSetExamples(t *testing.T) {
	lists(t, 9, []int{0, 3})
	covers(t, 9, 8, true)
	covers(t, 8, 9, false)
	covers(t, 0, 0, true)
}

func TestValid(t *testing.T) {
	for _, set := range []uint64{0, 1, 9, 1 << 31, 1 << 32, 1 << 60, 1 << 61, 1<<61 + 1, 1<<62 - 2, 1<<62 - 1} {
		valid(t, set, true)
	}
	for _, set := range []uint64{1 << 62, 1<<62 + 1, 1<<62 + 1<<61, 1<<63 - 1, 1 << 63, 1<<63 + 1, 1<<63 + 1<<61, 1<<63 + 1<<62 - 1, 3 << 62, 3<<62 + 9, math.MaxUint64 - 1, math.MaxUint64} {
		valid(t, set, false)
	}
	for bit := range 64 {
		valid(t, power(bit), bit < 62)
		valid(t, power(bit)|1<<62, false)
		valid(t, power(bit)|1<<63, false)
	}
	for _, set := range words() {
		valid(t, set, !has(set, 62) && !has(set, 63))
	}
}

func TestListAndCount(t *testing.T) {
	lists(t, 0, nil)
	lists(t, math.MaxUint64, rising(0, 64))
	lists(t, 1<<62-1, rising(0, 62))
	lists(t, 3<<62, []int{62, 63}) // of any word, though these are no skills
	lists(t, 1<<63+1, []int{0, 63})
	lists(t, 1<<62+1<<32+1<<31, []int{31, 32, 62})
	for bit := range 64 {
		lists(t, power(bit), []int{bit})
	}
	for _, set := range words() {
		lists(t, set, members(set))
	}
	for set := range uint64(1 << 10) {
		lists(t, set, members(set))
		lists(t, set<<54, members(set<<54))
	}
}

// TestListOfOf: Of and List undo each other, on the words that are valid and on no others.
func TestListOfOf(t *testing.T) {
	for _, set := range words() {
		if Valid(set) {
			makes(t, List(set), set, 0, api.OK)
			continue
		}
		at := slices.IndexFunc(List(set), func(s int) bool { return s >= 62 })
		makes(t, List(set), 0, at, api.ErrRange)
	}
	r := rand.New(rand.NewSource(11))
	for range 2000 {
		l := r.Perm(62)[:r.Intn(63)]
		set, _, e := Of(l)
		slices.Sort(l)
		if e != api.OK || !Valid(set) {
			t.Errorf("P10.1: Of(%v in another order): %#x, %d", l, set, e)
		}
		lists(t, set, l)
	}
}

func TestCovers(t *testing.T) {
	cases := []struct {
		have, want uint64
		is         bool
	}{
		{0, 0, true}, {0, 1, false}, {1, 0, true}, {1, 1, true}, {0, math.MaxUint64, false}, {math.MaxUint64, 0, true}, {math.MaxUint64, math.MaxUint64, true},
		{9, 9, true}, {9, 1, true}, {1, 9, false}, {9, 2, false}, {8, 1, false}, // greater as a number, but without the bit
		{6, 3, false}, {3, 6, false}, {6, 9, false}, {7, 5, true}, {5, 7, false}, // 6 and 3 cross
		{1 << 61, 1 << 61, true}, {1<<62 - 1, 1 << 61, true}, {1 << 61, 1<<62 - 1, false}, {1<<61 + 1, 1<<61 + 2, false},
		// Of any words: bits 62 and 63 are no skills, but bits.
		{1 << 62, 1 << 62, true}, {1<<62 - 1, 1 << 62, false}, {1<<63 - 1, 1 << 63, false}, {1 << 63, 1 << 62, false}, {3 << 62, 1 << 63, true}, {1 << 63, 3 << 62, false}, {1<<62 - 1, math.MaxUint64, false},
	}
	for _, c := range cases {
		covers(t, c.have, c.want, c.is)
	}
	for a := range 64 {
		for b := range 64 {
			covers(t, power(a), power(b), a == b)
			covers(t, math.MaxUint64-power(a), power(b), a != b)
		}
	}
}

// TestCoversOfAllSmall: each two words of six bits, at both ends of a word.
func TestCoversOfAllSmall(t *testing.T) {
	for have := range uint64(64) {
		for want := range uint64(64) {
			is := coversEach(have, want)
			covers(t, have, want, is)
			covers(t, have<<58, want<<58, is)
		}
	}
}

// TestCoversOfWords: each word with itself, with more and with less, and with the next one.
func TestCoversOfWords(t *testing.T) {
	all := words()
	for i, a := range all {
		b := all[(i+1)%len(all)]
		covers(t, a, a, true)
		covers(t, a, 0, true)
		covers(t, 0, a, a == 0)
		covers(t, a|b, a, true)
		covers(t, a, a&b, true)
		covers(t, math.MaxUint64, a, true)
		covers(t, a, b, coversEach(a, b))
		covers(t, a&b, a, coversEach(b, a))
		for _, bit := range members(a) {
			covers(t, a-power(bit), a, false)
			covers(t, a, a-power(bit), true)
		}
	}
}

// coversEach: has the first each bit of the second, asked one by one?
func coversEach(have, want uint64) bool {
	for _, bit := range members(want) {
		if !has(have, bit) {
			return false
		}
	}
	return true
}
