package queue

import (
	"math"
	"testing"

	"haulier/api"
)

// full: MaxItems items, 10 and each tenth number behind it, with keys that fall.
func full(t *testing.T) *Queue {
	t.Helper()
	q := New()
	for i := 1; i <= api.MaxItems; i++ {
		if !q.Put(10*i, -10*i) || q.Len() != i {
			t.Fatalf("item %d: Len %d", i, q.Len())
		}
	}
	return q
}

// refuses: does the full queue take no item that isn't there, and stay as it is?
func refuses(t *testing.T, q *Queue) {
	t.Helper()
	for _, item := range []int{1, 0, -1, math.MinInt, math.MaxInt} {
		for _, key := range []int{0, math.MinInt, math.MaxInt} {
			if q.Put(item, key) || q.Len() != api.MaxItems {
				t.Errorf("Put(%d, %d) while full: Len %d", item, key, q.Len())
			}
			lacks(t, q, item)
		}
	}
}

func TestMaxItems(t *testing.T) {
	if api.MaxItems != 4096 {
		t.Errorf("MaxItems: %d", api.MaxItems)
	}
	q := full(t)
	refuses(t, q)
	for i := api.MaxItems; i > 0; i-- {
		if item, key, ok := q.Take(); item != 10*i || key != -10*i || !ok || q.Len() != i-1 {
			t.Fatalf("item %d: %d, %d, %v, Len %d", i, item, key, ok, q.Len())
		}
	}
	empty(t, q)
}

func TestLoweredWhileFull(t *testing.T) {
	q := full(t)
	const low = -1000000
	if q.Put(500, -500) || q.Put(500, 0) || !q.Put(500, low) || q.Put(500, low) {
		t.Error("Put of an item that is there, while full")
	}
	keyed(t, q, 500, low)
	refuses(t, q)
	if item, key, ok := q.Take(); item != 500 || key != low || !ok {
		t.Errorf("Take: %d, %d, %v", item, key, ok)
	}
}

func TestRoomAgain(t *testing.T) {
	q := full(t)
	for i := range 3 {
		q.Take()
		if !q.Put(-1-10*i, 7+i) || q.Len() != api.MaxItems {
			t.Errorf("Put behind a Take: Len %d", q.Len())
		}
		keyed(t, q, -1-10*i, 7+i)
		if q.Put(5, 0) {
			t.Error("one more behind the one that came for the taken one")
		}
		if q.Drop(5) || q.Put(5, 0) {
			t.Error("a Drop of nothing made room")
		}
		if !q.Drop(200+10*i) || !q.Put(-2-10*i, 17+i) || q.Len() != api.MaxItems {
			t.Errorf("Put behind a Drop: Len %d", q.Len())
		}
		keyed(t, q, -2-10*i, 17+i)
		refusesOne(t, q, 200+10*i)
	}
}

// refusesOne: does the full queue not take an item that went?
func refusesOne(t *testing.T, q *Queue, item int) {
	t.Helper()
	lacks(t, q, item)
	if q.Put(item, math.MinInt) {
		t.Errorf("Put(%d) while full", item)
	}
	lacks(t, q, item)
}

func TestNilQueue(t *testing.T) {
	var q *Queue
	for _, item := range []int{0, 1, -1, math.MinInt, math.MaxInt} {
		for _, key := range []int{0, 1, -1, math.MinInt, math.MaxInt} {
			if q.Put(item, key) {
				t.Errorf("Put(%d, %d) of nil: true", item, key)
			}
		}
		lacks(t, q, item)
		if q.Drop(item) {
			t.Errorf("Drop(%d) of nil: true", item)
		}
	}
	if q.Len() != 0 {
		t.Errorf("Len of nil: %d", q.Len())
	}
	empty(t, q)
}

// TestZeroQueue: a Queue that New didn't make holds nothing, and takes items.
func TestZeroQueue(t *testing.T) {
	q := &Queue{}
	if q.Len() != 0 || q.Drop(0) {
		t.Error("a zero Queue has an item")
	}
	lacks(t, q, 0)
	empty(t, q)
	if !q.Put(4, 2) || !q.Put(3, 2) || !q.Put(3, 1) {
		t.Error("Put into a zero Queue")
	}
	keyed(t, q, 3, 1)
	empty(t, q, 3, 1, 4, 2)
}

// TestCopiedQueue: calls of a Queue and of its copy, in turns, end and don't panic.
func TestCopiedQueue(t *testing.T) {
	q := filled(t, 1, 10, 2, 20)
	c := *q
	for i := range 50 {
		q.Put(100+i, -i)
		c.Put(100+i, -100-i)
		c.Drop(99 + i)
		q.Take()
		c.Put(200+i, 0)
		q.Key(200 + i)
		q.Drop(200 + i)
		c.Key(200 + i)
		c.Take()
	}
}

// TestQueuesAreApart: what one holds is not seen in another, be it older or newer.
func TestQueuesAreApart(t *testing.T) {
	a := filled(t, 1, 10, 2, 20)
	b := New()
	lacks(t, b, 1)
	if b.Len() != 0 || !b.Put(1, 30) || !b.Put(3, 5) {
		t.Error("a new Queue isn't empty")
	}
	keyed(t, a, 1, 10)
	lacks(t, a, 3)
	b.Drop(1)
	b.Take()
	keyed(t, a, 1, 10)
	if a.Put(1, 25) || !a.Put(1, 5) {
		t.Error("the keys of one Queue were held against another's")
	}
	empty(t, b)
	empty(t, a, 1, 5, 2, 20)
}

// TestQuestionsChangeNothing: Len and Key, and calls that answer false, leave all as it is.
func TestQuestionsChangeNothing(t *testing.T) {
	q := filled(t, 3, 30, 1, 10, 2, 20, 4, 10)
	for range 3 {
		q.Len()
		for item := range 6 {
			q.Key(item)
		}
		if q.Put(3, 30) || q.Put(1, 11) || q.Put(4, math.MaxInt) || q.Drop(0) || q.Drop(5) {
			t.Error("a call that does nothing answered true")
		}
		lacks(t, q, 0)
		lacks(t, q, 5)
	}
	empty(t, q, 1, 10, 4, 10, 2, 20, 3, 30)
}
