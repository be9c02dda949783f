package queue

import (
	"fmt"
	"math"
	"math/rand"
	"slices"
	"testing"

	"haulier/api"
)

// plainList is what a Queue must answer as: pairs in no order, each gone through by every call.
type plainList struct{ pairs []pair }

func (l *plainList) find(item int) int {
	return slices.IndexFunc(l.pairs, func(p pair) bool { return p.item == item })
}

func (l *plainList) Len() int { return len(l.pairs) }

func (l *plainList) Put(item, key int) bool {
	at := l.find(item)
	switch {
	case at < 0 && len(l.pairs) < api.MaxItems:
		l.pairs = append(l.pairs, pair{item, key})
		return true
	case at >= 0 && key < l.pairs[at].key:
		l.pairs[at].key = key
		return true
	}
	return false
}

func (l *plainList) Key(item int) (int, bool) {
	if at := l.find(item); at >= 0 {
		return l.pairs[at].key, true
	}
	return 0, false
}

func (l *plainList) Take() (int, int, bool) {
	if len(l.pairs) == 0 {
		return 0, 0, false
	}
	first := l.pairs[0]
	for _, p := range l.pairs {
		if p.key < first.key || p.key == first.key && p.item < first.item {
			first = p
		}
	}
	l.Drop(first.item)
	return first.item, first.key, true
}

func (l *plainList) Drop(item int) bool {
	at := l.find(item)
	if at >= 0 {
		l.pairs = slices.Delete(l.pairs, at, at+1)
	}
	return at >= 0
}

// called is what both are.
type called interface {
	Len() int
	Put(item, key int) bool
	Key(item int) (int, bool)
	Take() (int, int, bool)
	Drop(item int) bool
}

// call is one call: 'p', 't', 'd' for Put, Take, Drop.
type call struct {
	what      rune
	item, key int
}

func (c call) String() string {
	switch c.what {
	case 'p':
		return fmt.Sprintf("Put(%d, %d)", c.item, c.key)
	case 'd':
		return fmt.Sprintf("Drop(%d)", c.item)
	}
	return "Take()"
}

// result is what one call answers.
type result struct {
	item, key int
	ok        bool
}

func (c call) on(q called) result {
	switch c.what {
	case 'p':
		return result{ok: q.Put(c.item, c.key)}
	case 'd':
		return result{ok: q.Drop(c.item)}
	}
	item, key, ok := q.Take()
	return result{item, key, ok}
}

// allCalls: every call that changes something, over these items and keys.
func allCalls(items, keys []int) []call {
	out := []call{{what: 't'}}
	for _, item := range items {
		out = append(out, call{'d', item, 0})
		for _, key := range keys {
			out = append(out, call{'p', item, key})
		}
	}
	return out
}

// alike: do both hold the same items with the same keys, as far as Len and Key tell?
func alike(a, b called, items []int) string {
	if a.Len() != b.Len() {
		return fmt.Sprintf("Len %d, want %d", a.Len(), b.Len())
	}
	for _, item := range items {
		key, ok := a.Key(item)
		wantKey, want := b.Key(item)
		if key != wantKey || ok != want {
			return fmt.Sprintf("Key(%d): %d, %v, want %d, %v", item, key, ok, wantKey, want)
		}
	}
	return ""
}

// hold makes the calls of a new Queue and of a plain list, and then takes all from both and once more; it tells the first place where they differ.
func hold(calls []call, items []int) string {
	q, l := New(), &plainList{}
	for i, c := range calls {
		if got, want := c.on(q), c.on(l); got != want {
			return fmt.Sprintf("%v: the last answers %v, want %v", calls[:i+1], got, want)
		}
		if differ := alike(q, l, items); differ != "" {
			return fmt.Sprintf("behind %v: %s", calls[:i+1], differ)
		}
	}
	for more := true; more; {
		more = l.Len() > 0
		take := call{what: 't'}
		if got, want := take.on(q), take.on(l); got != want {
			return fmt.Sprintf("behind %v: Take: %v, want %v", calls, got, want)
		}
		if differ := alike(q, l, items); differ != "" {
			return fmt.Sprintf("behind %v and some Takes: %s", calls, differ)
		}
	}
	return ""
}

// TestAllShortRowsOfCalls: every call in any order, over a few items and keys.
func TestAllShortRowsOfCalls(t *testing.T) {
	for _, c := range []struct {
		items, keys []int
		long        int
	}{
		{[]int{1, 2}, []int{0, 1, 2}, 5},
		{[]int{-1, 0, 7}, []int{-3, 4}, 5},
		{[]int{1, 2, 3, 4}, []int{5}, 5},
		{[]int{1}, []int{-2, -1, 0, 1}, 6},
		{[]int{math.MinInt, 0, math.MaxInt}, []int{math.MinInt, 0, math.MaxInt}, 4},
	} {
		calls := allCalls(c.items, c.keys)
		asked := append([]int{5, -5}, c.items...)
		row := make([]call, c.long)
		var rows func(at int)
		rows = func(at int) {
			if t.Failed() {
				return
			}
			if at == len(row) {
				if differ := hold(row, asked); differ != "" {
					t.Error(differ)
				}
				return
			}
			for _, one := range calls {
				row[at] = one
				rows(at + 1)
			}
		}
		rows(0)
	}
}

// orders: each order of the numbers from 0 to below n.
func orders(n int) [][]int {
	if n == 0 {
		return [][]int{nil}
	}
	var out [][]int
	for _, l := range orders(n - 1) {
		for at := range n {
			out = append(out, slices.Insert(slices.Clone(l), at, n-1))
		}
	}
	return out
}

// TestOrders: items that come with their keys in every order go in the one order.
func TestOrders(t *testing.T) {
	for n := range 8 {
		for _, l := range orders(n) {
			byKey, byItem, turned := New(), New(), New()
			for _, i := range l {
				byKey.Put(100-i, i)
				byItem.Put(i, 3)
				turned.Put(i, -i)
			}
			for i := range n {
				if item, key, ok := byKey.Take(); item != 100-i || key != i || !ok {
					t.Fatalf("keys %v: Take %d: %d, %d, %v", l, i, item, key, ok)
				}
				if item, key, ok := byItem.Take(); item != i || key != 3 || !ok {
					t.Fatalf("items %v with one key: Take %d: %d, %d, %v", l, i, item, key, ok)
				}
				if item, key, ok := turned.Take(); item != n-1-i || key != i-n+1 || !ok {
					t.Fatalf("items %v, the greatest first: Take %d: %d, %d, %v", l, i, item, key, ok)
				}
			}
			for _, q := range []*Queue{byKey, byItem, turned} {
				if item, key, ok := q.Take(); item != 0 || key != 0 || ok || q.Len() != 0 {
					t.Fatalf("%v: once more: %d, %d, %v", l, item, key, ok)
				}
			}
		}
	}
}

// TestDropAnyAndLowerAny: of queues of each length, filled in several orders, each item dropped, and each one's key lowered to each place.
func TestDropAnyAndLowerAny(t *testing.T) {
	r := rand.New(rand.NewSource(4))
	for n := 1; n <= 20; n++ {
		items := make([]int, n)
		var fill []call
		for _, i := range r.Perm(n) {
			items[i] = i
			fill = append(fill, call{'p', i, 10 * r.Intn(n)})
		}
		for i := range n {
			row := append(slices.Clone(fill), call{'d', i, 0}, call{'d', i, 0}, call{'p', i, 55})
			if differ := hold(row, items); differ != "" {
				t.Fatal(differ)
			}
			for key := -5; key < 10*n; key += 5 {
				row := append(slices.Clone(fill), call{'p', i, key}, call{'p', i, key})
				if differ := hold(row, items); differ != "" {
					t.Fatal(differ)
				}
			}
		}
	}
}

// TestLongRowsOfCalls: many calls over more items, by which the queue grows and shrinks.
func TestLongRowsOfCalls(t *testing.T) {
	for seed := range 60 {
		r := rand.New(rand.NewSource(int64(seed)))
		var items []int
		for range 1 + r.Intn(60) {
			items = append(items, wild(r))
		}
		keys := 1 + r.Intn(40)
		var row []call
		for range 400 {
			c := call{'p', items[r.Intn(len(items))], r.Intn(keys) - keys/2}
			if seed%3 == 0 {
				c.key = wild(r)
			}
			switch r.Intn(10) {
			case 0, 1:
				c = call{what: 't'}
			case 2:
				c = call{'d', c.item, 0}
			}
			row = append(row, c)
		}
		if differ := hold(row, items); differ != "" {
			t.Fatalf("seed %d: %s", seed, differ[max(0, len(differ)-200):])
		}
	}
}

// wild: any int, the small ones and those at the ends oftener.
func wild(r *rand.Rand) int {
	switch r.Intn(4) {
	case 0:
		return r.Intn(9) - 4
	case 1:
		return math.MinInt + r.Intn(4)
	case 2:
		return math.MaxInt - r.Intn(4)
	}
	return int(r.Uint64())
}
