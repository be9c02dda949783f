package queue

import (
	"math"
	"slices"
	"testing"
)

// filled: a queue of items with keys, in turns.
func filled(t *testing.T, itemsAndKeys ...int) *Queue {
	t.Helper()
	q := New()
	for i := 0; i < len(itemsAndKeys); i += 2 {
		if !q.Put(itemsAndKeys[i], itemsAndKeys[i+1]) {
			t.Fatalf("Put(%d, %d) of a new item: false", itemsAndKeys[i], itemsAndKeys[i+1])
		}
	}
	return q
}

// empty: are these items with keys, in turns, what is taken, and then nothing, twice?
func empty(t *testing.T, q *Queue, itemsAndKeys ...int) {
	t.Helper()
	var got []int
	for range len(itemsAndKeys)/2 + 2 {
		before := q.Len()
		item, key, ok := q.Take()
		if ok {
			got = append(got, item, key)
		} else if item != 0 || key != 0 || before != 0 {
			t.Errorf("Take of nothing: %d, %d; Len was %d", item, key, before)
		}
		if ok && q.Len() != before-1 {
			t.Errorf("Len %d behind a Take, %d ahead of it", q.Len(), before)
		}
	}
	if !slices.Equal(got, itemsAndKeys) || q.Len() != 0 {
		t.Errorf("taken: %v, want %v; Len %d", got, itemsAndKeys, q.Len())
	}
}

// keyed: has the item this key?
func keyed(t *testing.T, q *Queue, item, want int) {
	t.Helper()
	if key, ok := q.Key(item); key != want || !ok {
		t.Errorf("Key(%d): %d, %v, want %d", item, key, ok, want)
	}
}

// lacks: is the item not there?
func lacks(t *testing.T, q *Queue, item int) {
	t.Helper()
	if key, ok := q.Key(item); key != 0 || ok {
		t.Errorf("Key(%d): %d, %v, want 0, false", item, key, ok)
	}
}

func TestExample(t *testing.T) {
	q := filled(t, 7, 5, 3, 5, 9, 6)
	if item, key, ok := q.Take(); item != 3 || key != 5 || !ok {
		t.Errorf("Take: %d, %d, %v", item, key, ok)
	}
	if !q.Put(9, 2) || q.Put(9, 4) {
		t.Error("Put(9, 2), then Put(9, 4)")
	}
	if item, key, ok := q.Take(); item != 9 || key != 2 || !ok {
		t.Errorf("Take: %d, %d, %v", item, key, ok)
	}
	if !q.Drop(7) {
		t.Error("Drop(7): false")
	}
	empty(t, q)
}

func TestNewIsEmpty(t *testing.T) {
	q := New()
	if q == nil || q.Len() != 0 || q.Drop(0) || q.Drop(1) {
		t.Error("a new Queue has an item")
	}
	lacks(t, q, 0)
	lacks(t, q, 1)
	empty(t, q)
}

func TestPutOfWhatIsThere(t *testing.T) {
	q := filled(t, 1, 10, 2, 20, 3, 30)
	for _, c := range []struct {
		item, key int
		want      bool
		after     int
	}{
		{2, 21, false, 20}, {2, 20, false, 20}, {2, math.MaxInt, false, 20},
		{2, 19, true, 19}, {2, 20, false, 19}, {2, 19, false, 19},
		{3, 0, true, 0}, {3, -1, true, -1}, {3, 0, false, -1},
		{1, math.MinInt, true, math.MinInt}, {1, math.MinInt, false, math.MinInt}, {1, 10, false, math.MinInt},
	} {
		if got := q.Put(c.item, c.key); got != c.want || q.Len() != 3 {
			t.Errorf("Put(%d, %d): %v, Len %d", c.item, c.key, got, q.Len())
		}
		keyed(t, q, c.item, c.after)
	}
	empty(t, q, 1, math.MinInt, 3, -1, 2, 19)
}

// TestComesAgain: an item that went may come with any key.
func TestComesAgain(t *testing.T) {
	q := filled(t, 1, 10, 2, 20)
	q.Take()
	lacks(t, q, 1)
	if !q.Put(1, 99) {
		t.Error("Put with a greater key behind a Take: false")
	}
	keyed(t, q, 1, 99)
	q.Drop(2)
	lacks(t, q, 2)
	if !q.Put(2, 20) {
		t.Error("Put with the same key behind a Drop: false")
	}
	keyed(t, q, 2, 20)
	empty(t, q, 2, 20, 1, 99)
	if !q.Put(1, 99) || !q.Put(2, 100) {
		t.Error("Put into what was emptied: false")
	}
	empty(t, q, 1, 99, 2, 100)
}

func TestKeys(t *testing.T) {
	q := filled(t, 0, 0, 1, -1, -1, 5, 8, math.MaxInt, 9, math.MinInt)
	keyed(t, q, 0, 0)
	keyed(t, q, 1, -1)
	keyed(t, q, -1, 5)
	keyed(t, q, 8, math.MaxInt)
	keyed(t, q, 9, math.MinInt)
	for _, item := range []int{2, 5, -2, math.MaxInt, math.MinInt} {
		lacks(t, q, item)
	}
	if q.Len() != 5 {
		t.Errorf("Len %d", q.Len())
	}
	empty(t, q, 9, math.MinInt, 1, -1, 0, 0, -1, 5, 8, math.MaxInt)
}

func TestTakeOfEqualKeys(t *testing.T) {
	empty(t, filled(t, 5, 1, 3, 1, 4, 1, -3, 1, 0, 1), -3, 1, 0, 1, 3, 1, 4, 1, 5, 1)
	empty(t, filled(t, 5, 1, 3, 2, 4, 1, 2, 2, 1, 2), 4, 1, 5, 1, 1, 2, 2, 2, 3, 2)
	// A lowered key that is now another's goes by its item too.
	q := filled(t, 9, 4, 5, 7, 7, 4)
	q.Put(5, 4)
	empty(t, q, 5, 4, 7, 4, 9, 4)
	q = filled(t, 5, 4, 9, 7, 7, 4)
	q.Put(9, 4)
	empty(t, q, 5, 4, 7, 4, 9, 4)
}

// TestEndsOfInt: no sum or difference of keys or items wraps round.
func TestEndsOfInt(t *testing.T) {
	const least, greatest = math.MinInt, math.MaxInt
	empty(t, filled(t, 1, greatest, 2, least, 3, 0, 4, -1, 5, 1), 2, least, 4, -1, 3, 0, 5, 1, 1, greatest)
	empty(t, filled(t, 1, least, 2, greatest), 1, least, 2, greatest)
	empty(t, filled(t, greatest, 1, least, 1, 0, 1, -1, 1), least, 1, -1, 1, 0, 1, greatest, 1)
	empty(t, filled(t, greatest, least, least, greatest, 0, greatest), greatest, least, least, greatest, 0, greatest)
	q := filled(t, least, greatest, greatest, greatest)
	if !q.Put(greatest, least) || q.Put(greatest, greatest) || q.Put(least, greatest) {
		t.Error("Put of the ends")
	}
	keyed(t, q, greatest, least)
	keyed(t, q, least, greatest)
	if !q.Drop(least) || q.Drop(least) || !q.Drop(greatest) || q.Len() != 0 {
		t.Error("Drop of the ends")
	}
}

func TestDrop(t *testing.T) {
	for _, c := range []struct {
		item int
		rest []int
	}{
		{1, []int{2, 20, 3, 30, 4, 40, 5, 50}},
		{3, []int{1, 10, 2, 20, 4, 40, 5, 50}},
		{5, []int{1, 10, 2, 20, 3, 30, 4, 40}},
	} {
		q := filled(t, 1, 10, 2, 20, 3, 30, 4, 40, 5, 50)
		for _, item := range []int{0, 6, -1, 10, 50} {
			if q.Drop(item) || q.Len() != 5 {
				t.Errorf("Drop(%d) of what isn't there: Len %d", item, q.Len())
			}
		}
		if !q.Drop(c.item) || q.Len() != 4 {
			t.Errorf("Drop(%d): Len %d", c.item, q.Len())
		}
		lacks(t, q, c.item)
		if q.Drop(c.item) || q.Len() != 4 {
			t.Errorf("Drop(%d) again: Len %d", c.item, q.Len())
		}
		empty(t, q, c.rest...)
	}
	q := filled(t, 8, 1)
	if !q.Drop(8) || q.Drop(8) {
		t.Error("Drop of the only one")
	}
	empty(t, q)
}
