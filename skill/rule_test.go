package skill

import (
	"math"
	"slices"
	"sync"
	"testing"

	"haulier/api"
)

// scribble: writes over a list, and over its spare room.
func scribble(l []int) {
	l = l[:cap(l)]
	for i := range l {
		l[i] = -77
	}
}

// handed: lists as Of may be handed them: right ones, and wrong ones of both errors.
func handed() [][]int {
	return [][]int{nil, {}, {3, 0}, {61}, rising(0, 62), falling(0, 62), {5, 1, 40}, {3, 3}, {9, 2, 9, 62}, {62}, {1, -1, 1}, {1, math.MinInt}, {math.MaxInt, 1}}
}

// TestArgumentsStay: neither a list nor what stands around it is changed.
func TestArgumentsStay(t *testing.T) {
	for _, l := range handed() {
		before := slices.Concat([]int{31, 32}, l, []int{33, 34, 35})
		whole := slices.Clone(before)
		Of(whole[2 : 2+len(l)])
		if !slices.Equal(whole, before) {
			t.Errorf("R6: %v became %v", before, whole)
		}
	}
}

// TestArgumentsAreNotKept: what was handed in is written over, and nothing else changes.
func TestArgumentsAreNotKept(t *testing.T) {
	for _, l := range handed() {
		one := slices.Clone(l)
		Of(one)
		scribble(one)
		agrees(t, l)
	}
}

// TestListsAreApart: an answered list that is written over, spare room too, changes no other answer, ahead or behind.
func TestListsAreApart(t *testing.T) {
	for _, set := range words() {
		one, other := List(set), List(set)
		scribble(one)
		if !slices.Equal(other, members(set)) {
			t.Errorf("R6: List(%#x), ahead of another that was written over: %v", set, other)
		}
		lists(t, set, members(set))
	}
}

// TestListsGrow: what is put behind an answered list isn't seen by another answer.
func TestListsGrow(t *testing.T) {
	one, other := List(9), List(9)
	one, other = append(one, 1), append(other, 2)
	if !slices.Equal(one, []int{0, 3, 1}) || !slices.Equal(other, []int{0, 3, 2}) {
		t.Errorf("R6: %v, %v", one, other)
	}
}

// TestNothingBesideAnError: no set, though the first numbers are skills; and no place where nothing is wrong.
func TestNothingBesideAnError(t *testing.T) {
	for _, l := range handed() {
		set, at, e := Of(l)
		if e != api.OK && set != 0 {
			t.Errorf("R3: Of(%v): %#x beside %d", l, set, e)
		}
		if e == api.OK && at != 0 {
			t.Errorf("R3: Of(%v): place %d beside OK", l, at)
		}
	}
}

// TestSameAgain: what was asked before, errors too, changes no answer.
func TestSameAgain(t *testing.T) {
	for range 3 {
		for _, l := range handed() {
			agrees(t, l)
			lists(t, 9, []int{0, 3})
			valid(t, 1<<62, false)
			valid(t, 1<<62-1, true)
			covers(t, 9, 8, true)
			covers(t, 8, 9, false)
		}
	}
}

// TestAllAtOnce: calls of several goroutines on the same lists don't touch each other.
func TestAllAtOnce(t *testing.T) {
	all, sets := handed(), words()
	var wait sync.WaitGroup
	for range 8 {
		wait.Go(func() {
			for _, l := range all {
				agrees(t, l)
			}
			for _, set := range sets {
				scribble(List(set))
				lists(t, set, members(set))
			}
		})
	}
	wait.Wait()
}
