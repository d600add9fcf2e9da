package timer

import (
	"cmp"
	"container/heap"
	"maps"
	"math"
	"slices"
	"testing"
)

// draws is a row of numbers without an order to be seen, the same each time.
func draws(seed uint64) func(below int) int {
	return func(below int) int {
		seed += 0x9e3779b97f4a7c15
		n := (seed ^ seed>>30) * 0xbf58476d1ce4e5b9
		n = (n ^ n>>27) * 0x94d049bb133111eb
		return int((n ^ n>>31) % uint64(below))
	}
}

// with is a Queue with keys, each ahead of its time: key, time, key, time, ..
func with(t *testing.T, pairs ...int) *Queue {
	t.Helper()
	q := New()
	for pair := range slices.Chunk(pairs, 2) {
		if !q.Set(pair[0], pair[1]) {
			t.Fatalf("Set(%d, %d) of %d keys is false", pair[0], pair[1], q.Len())
		}
	}
	return q
}

// full is a Queue with the keys 0 to 999, the least times at its end.
func full(t *testing.T) (*Queue, plain) {
	t.Helper()
	q, p := New(), plain{}
	for key := range 1000 {
		if !q.Set(key, -key) {
			t.Fatalf("Set of key %d is false", key)
		}
		p[key] = -key
	}
	return q, p
}

// ends are numbers of both signs, around nought, and at the ends of numbers.
func ends() []int {
	return []int{math.MinInt, math.MinInt + 1, -2, -1, 0, 1, 2, math.MaxInt - 1, math.MaxInt}
}

// plain is the time of each key, and does without a heap what a Queue does.
type plain map[int]int

// order are the keys, the first first.
func (p plain) order() []int {
	return slices.SortedFunc(maps.Keys(p), func(a, b int) int {
		return cmp.Or(cmp.Compare(p[a], p[b]), cmp.Compare(a, b))
	})
}

func (p plain) set(key, at int) bool {
	if _, is := p[key]; !is && len(p) >= 1000 {
		return false
	}
	p[key] = at
	return true
}

func (p plain) drop(key int) bool {
	_, is := p[key]
	delete(p, key)
	return is
}

func (p plain) due(now int) []int {
	var l []int
	for _, key := range p.order() {
		if p[key] <= now {
			l = append(l, key)
			delete(p, key)
		}
	}
	return l
}

// hold looks whether a Queue tells just what it should, and changes nothing by it.
func hold(t *testing.T, q *Queue, p plain) {
	t.Helper()
	if q.Len() != len(p) {
		t.Fatalf("Len is %d, want %d", q.Len(), len(p))
	}
	for key, want := range p {
		if at, ok := q.At(key); at != want || !ok {
			t.Fatalf("At(%d) = %d, %t, want %d", key, at, ok, want)
		}
	}
	key, at, ok := q.Next()
	if order := p.order(); len(order) > 0 {
		if key != order[0] || at != p[key] || !ok {
			t.Fatalf("Next = %d, %d, %t, want %d, %d", key, at, ok, order[0], p[order[0]])
		}
	} else if key != 0 || at != 0 || ok {
		t.Fatalf("Next of no keys = %d, %d, %t", key, at, ok)
	}
}

// gone looks whether a key is not there.
func gone(t *testing.T, q *Queue, key int) {
	t.Helper()
	if at, ok := q.At(key); at != 0 || ok {
		t.Errorf("At(%d) = %d, %t, but it is not there", key, at, ok)
	}
}

// due looks at what Due tells, and whether that is not there then.
func due(t *testing.T, q *Queue, now int, want ...int) {
	t.Helper()
	many := q.Len()
	if got := q.Due(now); !slices.Equal(got, want) {
		t.Fatalf("Due(%d) = %d, want %d", now, got, want)
	}
	for _, key := range want {
		gone(t, q, key)
	}
	if q.Len() != many-len(want) {
		t.Fatalf("behind Due(%d) Len is %d, and was %d", now, q.Len(), many)
	}
}

func TestExample(t *testing.T) {
	q := with(t, 1, 5, 2, 3)
	due(t, q, 4, 2)
	hold(t, q, plain{1: 5})
}

func TestNew(t *testing.T) {
	q := New()
	if q == nil {
		t.Fatal("New is nil")
	}
	hold(t, q, plain{})
}

func TestQueuesKnowNothingOfOneAnother(t *testing.T) {
	a, b := New(), New()
	a.Set(1, 5)
	b.Set(1, 7)
	b.Set(2, 3)
	hold(t, a, plain{1: 5})
	hold(t, b, plain{1: 7, 2: 3})
	a.Drop(1)
	due(t, b, 9, 2, 1)
	hold(t, a, plain{})
	full(t)
	if !a.Set(1, 1) {
		t.Error("a Queue has no room, because another one is full")
	}
}

func TestNoKeys(t *testing.T) {
	emptied := with(t, 1, 5, 2, 3, 3, 4)
	emptied.Drop(1)
	emptied.Due(9)
	for _, q := range []*Queue{New(), emptied} {
		for _, n := range ends() {
			if q.Drop(n) {
				t.Errorf("Drop(%d) of no keys is true", n)
			}
			gone(t, q, n)
			due(t, q, n)
		}
		hold(t, q, plain{})
		if !q.Set(4, 6) {
			t.Error("Set of no keys is false")
		}
		hold(t, q, plain{4: 6})
	}
}

func TestNilQueue(t *testing.T) {
	var q *Queue
	for _, n := range ends() {
		for _, at := range ends() {
			if q.Set(n, at) {
				t.Errorf("a nil Queue takes %d at %d", n, at)
			}
		}
		if q.Drop(n) {
			t.Errorf("a nil Queue had %d", n)
		}
		if l := q.Due(n); len(l) != 0 {
			t.Errorf("of a nil Queue %d are due", l)
		}
		gone(t, q, n)
	}
	hold(t, q, plain{})
}

func TestDeclaredQueueTakesKeys(t *testing.T) {
	var q Queue
	hold(t, &q, plain{})
	if q.Drop(1) || !q.Set(1, 5) {
		t.Error("a Queue that was only declared drops what is not there, or takes nothing")
	}
	hold(t, &q, plain{1: 5})
}

func TestSetAgain(t *testing.T) {
	for _, c := range []struct {
		name    string
		key, at int
		want    []int
	}{
		{"the first, earlier", 1, 5, []int{1, 2, 3, 4, 5}},
		{"the first, later", 1, 25, []int{2, 1, 3, 4, 5}},
		{"the first, to the end", 1, 99, []int{2, 3, 4, 5, 1}},
		{"the first, to the same", 1, 10, []int{1, 2, 3, 4, 5}},
		{"one of the middle, to the front", 3, 1, []int{3, 1, 2, 4, 5}},
		{"one of the middle, earlier", 3, 15, []int{1, 3, 2, 4, 5}},
		{"one of the middle, later", 3, 45, []int{1, 2, 4, 3, 5}},
		{"one of the middle, to the end", 3, 99, []int{1, 2, 4, 5, 3}},
		{"one of the middle, to the same", 3, 30, []int{1, 2, 3, 4, 5}},
		{"the last, to the front", 5, -7, []int{5, 1, 2, 3, 4}},
		{"the last, earlier", 5, 35, []int{1, 2, 3, 5, 4}},
		{"the last, later", 5, 51, []int{1, 2, 3, 4, 5}},
		{"the last, to the same", 5, 50, []int{1, 2, 3, 4, 5}},
		{"to the time of a lesser key", 4, 10, []int{1, 4, 2, 3, 5}},
		{"to the time of a greater key", 3, 50, []int{1, 2, 4, 3, 5}},
		{"to the time of a greater key, from behind", 5, 40, []int{1, 2, 3, 4, 5}},
	} {
		t.Run(c.name, func(t *testing.T) {
			q, p := with(t, 4, 40, 2, 20, 5, 50, 1, 10, 3, 30), plain{4: 40, 2: 20, 5: 50, 1: 10, 3: 30}
			if !q.Set(c.key, c.at) {
				t.Fatalf("Set(%d, %d) is false", c.key, c.at)
			}
			p[c.key] = c.at
			hold(t, q, p)
			due(t, q, math.MaxInt, c.want...)
		})
	}
}

func TestSetMoreThanOnce(t *testing.T) {
	q := New()
	for _, at := range []int{5, 9, 1, 1, math.MaxInt, math.MinInt, 0} {
		if !q.Set(7, at) {
			t.Fatalf("Set(7, %d) is false", at)
		}
		hold(t, q, plain{7: at})
	}
	due(t, q, -1)
	due(t, q, 0, 7)
	due(t, q, math.MaxInt)
}

func TestDrop(t *testing.T) {
	for _, c := range []struct {
		name string
		key  int
		want []int
	}{
		{"the first", 1, []int{2, 3, 4, 5}},
		{"the second", 2, []int{1, 3, 4, 5}},
		{"one of the middle", 3, []int{1, 2, 4, 5}},
		{"one of the middle, too", 4, []int{1, 2, 3, 5}},
		{"the last", 5, []int{1, 2, 3, 4}},
		{"one that is not there", 6, []int{1, 2, 3, 4, 5}},
		{"a time that is no key", 30, []int{1, 2, 3, 4, 5}},
		{"nought", 0, []int{1, 2, 3, 4, 5}},
	} {
		t.Run(c.name, func(t *testing.T) {
			q, p := with(t, 4, 40, 2, 20, 5, 50, 1, 10, 3, 30), plain{4: 40, 2: 20, 5: 50, 1: 10, 3: 30}
			for _, was := range []bool{p.drop(c.key), false} {
				if got := q.Drop(c.key); got != was {
					t.Fatalf("Drop(%d) is %t", c.key, got)
				}
				gone(t, q, c.key)
				hold(t, q, p)
			}
			due(t, q, math.MaxInt, c.want...)
		})
	}
}

// permutations are all orders of 0 to n - 1.
func permutations(n int) [][]int {
	if n == 0 {
		return [][]int{{}}
	}
	var l [][]int
	for _, shorter := range permutations(n - 1) {
		for at := range n {
			l = append(l, slices.Insert(slices.Clone(shorter), at, n-1))
		}
	}
	return l
}

// Whichever way six keys come in and one or two of them go, the others come out in order.
func TestEachOrder(t *testing.T) {
	for _, order := range permutations(6) {
		for a := range 6 {
			for b := range 6 {
				q, p := New(), plain{}
				for at, key := range order {
					// Times by pairs: two keys each have the same one.
					q.Set(key, at/2)
					p.set(key, at/2)
				}
				for _, key := range []int{a, b} {
					if got, want := q.Drop(key), p.drop(key); got != want {
						t.Fatalf("of %d, Drop(%d), Drop(%d): %t, want %t", order, a, b, got, want)
					}
				}
				hold(t, q, p)
				if got, want := q.Due(2), p.due(2); !slices.Equal(got, want) {
					t.Fatalf("of %d without %d and %d, Due is %d, want %d", order, a, b, got, want)
				}
			}
		}
	}
}

func TestSameTimeIsByKeys(t *testing.T) {
	for _, order := range permutations(6) {
		q := New()
		for _, key := range order {
			q.Set(key-3, 9)
		}
		for want := -3; want < 3; want++ {
			key, at, ok := q.Next()
			if key != want || at != 9 || !ok {
				t.Fatalf("of %d, Next = %d, %d, %t, want %d", order, key, at, ok, want)
			}
			q.Drop(key)
		}
		for _, key := range order {
			q.Set(key-3, 9)
		}
		due(t, q, 9, -3, -2, -1, 0, 1, 2)
	}
}

func TestNextIsByTimeAheadOfKey(t *testing.T) {
	q := with(t, -9, 2, 9, 1, 0, 3)
	for _, want := range []int{9, -9, 0} {
		for range 2 {
			if key, _, ok := q.Next(); key != want || !ok {
				t.Fatalf("Next = %d, %t, want %d", key, ok, want)
			}
		}
		q.Drop(want)
	}
	hold(t, q, plain{})
}

func TestDueAtAndAroundATime(t *testing.T) {
	for _, at := range ends() {
		q := with(t, 3, at)
		if at > math.MinInt {
			due(t, q, at-1)
			due(t, q, math.MinInt)
			hold(t, q, plain{3: at})
		}
		due(t, q, at, 3)
		due(t, q, at)
		due(t, q, math.MaxInt)
		q.Set(3, at)
		if at < math.MaxInt {
			due(t, q, at+1, 3)
		}
	}
}

func TestDueTakesNoMoreThanIsDue(t *testing.T) {
	q := with(t, 5, 50, 1, 10, 4, 40, 2, 20, 3, 30, 6, 20)
	due(t, q, 9)
	due(t, q, 19, 1)
	due(t, q, 20, 2, 6)
	due(t, q, 20)
	due(t, q, 0)
	hold(t, q, plain{3: 30, 4: 40, 5: 50})
	due(t, q, 49, 3, 4)
	due(t, q, math.MaxInt, 5)
	hold(t, q, plain{})
}

func TestWhatWasDueComesAgainOnlyIfSetAgain(t *testing.T) {
	q := with(t, 1, 5, 2, 3)
	due(t, q, 9, 2, 1)
	due(t, q, 9)
	if q.Drop(1) {
		t.Error("what was due is dropped")
	}
	if !q.Set(1, 7) {
		t.Error("what was due can't be set again")
	}
	hold(t, q, plain{1: 7})
	due(t, q, 9, 1)
}

func TestKeysAndTimesAtTheEndsOfNumbers(t *testing.T) {
	q, p := New(), plain{}
	for _, key := range ends() {
		for _, at := range ends() {
			if !q.Set(key, at) {
				t.Fatalf("Set(%d, %d) is false", key, at)
			}
			p.set(key, at)
			hold(t, q, p)
		}
		// Keys at each end of times: some rise by their times, some fall.
		at := ends()[(len(p)*4)%len(ends())]
		q.Set(key, at)
		p.set(key, at)
	}
	for _, now := range ends() {
		due(t, q, now, p.due(now)...)
		hold(t, q, p)
	}
	hold(t, q, plain{})
}

func TestThousandKeys(t *testing.T) {
	q, p := full(t)
	hold(t, q, p)
	for _, key := range []int{1000, -1, math.MinInt, math.MaxInt} {
		for _, at := range ends() {
			if q.Set(key, at) {
				t.Fatalf("Set(%d, %d) behind 1000 others is true", key, at)
			}
		}
		gone(t, q, key)
	}
	hold(t, q, p)
	// One of the 1000 still goes to another time, and leaves no room by it.
	for key, at := range map[int]int{0: -5000, 999: 5000, 500: 7, 501: -501} {
		if !q.Set(key, at) {
			t.Fatalf("Set(%d, %d) of one of 1000 is false", key, at)
		}
		p.set(key, at)
	}
	if q.Set(1000, 0) {
		t.Fatal("setting again has made room")
	}
	hold(t, q, p)
	due(t, q, math.MaxInt, p.due(math.MaxInt)...)
}

func TestRoomIsMadeByDropAndDue(t *testing.T) {
	q, p := full(t)
	q.Drop(500)
	p.drop(500)
	if !q.Set(2000, 1) || q.Set(2001, 1) {
		t.Fatal("one key was dropped: there is room for just one")
	}
	p.set(2000, 1)
	due(t, q, -998, 999, 998)
	p.due(-998)
	if !q.Set(2001, 1) || !q.Set(500, -5000) || q.Set(2002, 1) {
		t.Fatal("two keys were due: there is room for just two")
	}
	p.set(2001, 1)
	p.set(500, -5000)
	hold(t, q, p)
	due(t, q, math.MaxInt, p.due(math.MaxInt)...)
	// And all of it once more.
	for key := range 1000 {
		if !q.Set(-key, key) {
			t.Fatalf("there is no room for key %d of a Queue that was emptied", key)
		}
	}
	if q.Set(1, 1) {
		t.Fatal("there is room for more than 1000")
	}
}

// step does one thing to both, drawn out of few or many keys, and looks whether both answer the same.
func step(t *testing.T, q *Queue, p plain, draw func(int) int, keys int) {
	t.Helper()
	key, at := draw(keys)-keys/2, draw(keys)-keys/2
	switch draw(10) {
	case 0, 1, 2:
		if got, want := q.Drop(key), p.drop(key); got != want {
			t.Fatalf("Drop(%d) = %t, want %t", key, got, want)
		}
	case 3:
		now := draw(keys) - keys/2 - draw(keys)
		if got, want := q.Due(now), p.due(now); !slices.Equal(got, want) {
			t.Fatalf("Due(%d) = %d, want %d", now, got, want)
		}
	default:
		if got, want := q.Set(key, at), p.set(key, at); got != want {
			t.Fatalf("Set(%d, %d) = %t, want %t", key, at, got, want)
		}
	}
}

func TestManySteps(t *testing.T) {
	for seed, keys := range []int{1, 2, 5, 20, 100, 1100, 3000} {
		draw := draws(uint64(seed))
		q, p := New(), plain{}
		for range 3000 {
			step(t, q, p, draw, keys)
			hold(t, q, p)
		}
		if got, want := q.Due(math.MaxInt), p.due(math.MaxInt); !slices.Equal(got, want) {
			t.Fatalf("at last, Due is %d, want %d", got, want)
		}
	}
}

// What a call answers hangs on the keys and times alone, not on the way that led to them.
func TestTheWayThereIsNotSeen(t *testing.T) {
	draw := draws(9)
	for range 100 {
		straight, p := New(), plain{}
		for range 60 {
			key, at := draw(40), draw(8)
			straight.Set(key, at)
			p.set(key, at)
		}
		other := New()
		for _, key := range slices.Backward(p.order()) {
			other.Set(100+key, -1)
			other.Set(key, draw(99))
			other.Set(key, p[key])
		}
		for key := range p {
			other.Drop(100 + key)
		}
		for now := range 9 {
			if a, b := straight.Due(now), other.Due(now); !slices.Equal(a, b) {
				t.Fatalf("Due(%d) is %d and %d", now, a, b)
			}
		}
	}
}

func TestDueIsNewMemory(t *testing.T) {
	q, p := New(), plain{}
	for key := range 100 {
		q.Set(key, key)
		p.set(key, key)
	}
	first := q.Due(40)
	p.due(40)
	for _, behind := range first[len(first):cap(first)] {
		if behind != 0 {
			t.Errorf("behind what is due lies %d", behind)
		}
	}
	kept := slices.Clone(first)
	for i := range first[:cap(first)] {
		first[:cap(first)][i] = -77
	}
	hold(t, q, p)
	second := q.Due(60)
	if want := p.due(60); !slices.Equal(second, want) {
		t.Errorf("behind an answer that was written over, Due is %d, want %d", second, want)
	}
	copy(first, kept)
	q.Set(3, 1)
	q.Due(99)
	for key := range 100 {
		q.Set(key+500, key)
	}
	if !slices.Equal(first, kept) {
		t.Errorf("what was due became %d", first)
	}
}

// A key that is not there any more is not held: neither in the map nor behind the heap's length.
func TestNothingIsKeptOfWhatIsGone(t *testing.T) {
	q, _ := full(t)
	q.Drop(0)
	q.Drop(500)
	q.Due(-900)
	q.Due(math.MaxInt)
	if len(q.byKey) != 0 {
		t.Errorf("%d keys are known of no keys", len(q.byKey))
	}
	for _, w := range q.line[:cap(q.line)] {
		if w != nil {
			t.Fatalf("key %d is kept", w.key)
		}
	}
}

// The heap is one, and each key knows where in it it is, whatever was done.
func TestEachKnowsItsPlace(t *testing.T) {
	draw := draws(5)
	q, p := New(), plain{}
	for range 2000 {
		step(t, q, p, draw, 60)
		if len(q.byKey) != len(q.line) {
			t.Fatalf("%d keys are known, %d wait", len(q.byKey), len(q.line))
		}
		for place, w := range q.line {
			if w.place != place || q.byKey[w.key] != w {
				t.Fatalf("key %d is at %d, and knows %d", w.key, place, w.place)
			}
			if place > 0 && q.line.Less(place, (place-1)/2) {
				t.Fatalf("key %d is below a later one", w.key)
			}
		}
	}
}

var _ heap.Interface = (*waits)(nil)
