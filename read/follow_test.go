package read

import (
	"math"
	"slices"
	"testing"

	"sculler/api"
)

func TestFollowOfNull(t *testing.T) {
	followed(t, api.Arena{{0}}, 0, 0, api.Obj{}, api.OK)
	followed(t, api.Arena{{1, 2}, {3, 0}}, 1, 1, api.Obj{}, api.OK)
}

func TestFollowOfNearPointers(t *testing.T) {
	for _, c := range []struct {
		word uint64
		want api.Obj
	}{
		{structWord(0, 1, 0), structAt(0, 1, 1, 0)},
		{structWord(0, 0, 1), structAt(0, 1, 0, 1)},
		{structWord(1, 3, 4), structAt(0, 2, 3, 4)},
		{listWord(0, api.OfBytes, 0), listAt(0, 1, api.OfBytes, 0)},
		{listWord(2, api.OfBytes, 17), listAt(0, 3, api.OfBytes, 17)},
		{listWord(0, api.OfWords, 8), listAt(0, 1, api.OfWords, 8)},
		{listWord(3, api.OfPtrs, 5), listAt(0, 4, api.OfPtrs, 5)},
	} {
		followed(t, api.Arena{behind(8, c.word)}, 0, 0, c.want, api.OK)
	}
}

// TestFollowAtTheEndsOfASegment has pointers in the middle of a segment of ten words, to things that begin with its first word, or end with its last one, and that do so by a word too far.
func TestFollowAtTheEndsOfASegment(t *testing.T) {
	for seg := range 3 {
		look := func(word uint64, want api.Obj, err api.Errno) {
			a := api.Arena{ones(10), ones(10), ones(10)}
			a[seg][4] = word
			followed(t, a, seg, 4, want, err)
		}
		look(structWord(-5, 2, 3), structAt(seg, 0, 2, 3), api.OK)
		look(structWord(-6, 2, 3), api.Obj{}, api.ErrBounds)
		look(listWord(-5, api.OfWords, 2), listAt(seg, 0, api.OfWords, 2), api.OK)
		look(listWord(-6, api.OfWords, 2), api.Obj{}, api.ErrBounds)
		look(structWord(-5, 4, 6), structAt(seg, 0, 4, 6), api.OK)
		look(structWord(-5, 5, 6), api.Obj{}, api.ErrBounds)
		look(structWord(-5, 4, 7), api.Obj{}, api.ErrBounds)
		look(structWord(0, 2, 3), structAt(seg, 5, 2, 3), api.OK)
		look(structWord(0, 3, 3), api.Obj{}, api.ErrBounds)
		look(structWord(1, 2, 3), api.Obj{}, api.ErrBounds)
		look(structWord(4, 1, 0), structAt(seg, 9, 1, 0), api.OK)
		look(structWord(5, 1, 0), api.Obj{}, api.ErrBounds)
		look(structWord(5, 0, 1), api.Obj{}, api.ErrBounds)
		look(structWord(0, math.MaxUint16, math.MaxUint16), api.Obj{}, api.ErrBounds)
		look(listWord(0, api.OfBytes, 40), listAt(seg, 5, api.OfBytes, 40), api.OK)
		look(listWord(0, api.OfBytes, 33), listAt(seg, 5, api.OfBytes, 33), api.OK)
		look(listWord(0, api.OfBytes, 41), api.Obj{}, api.ErrBounds)
		look(listWord(0, api.OfWords, 5), listAt(seg, 5, api.OfWords, 5), api.OK)
		look(listWord(0, api.OfWords, 6), api.Obj{}, api.ErrBounds)
		look(listWord(0, api.OfPtrs, 5), listAt(seg, 5, api.OfPtrs, 5), api.OK)
		look(listWord(0, api.OfPtrs, 6), api.Obj{}, api.ErrBounds)
		look(listWord(0, api.OfPtrs, 1<<29-1), api.Obj{}, api.ErrBounds)
		// The ends of Off.
		look(structWord(-1<<29, 1, 0), api.Obj{}, api.ErrBounds)
		look(structWord(1<<29-1, 1, 0), api.Obj{}, api.ErrBounds)
		// Without words it may begin behind the last one, but no further on.
		look(structWord(-5, 0, 0), structAt(seg, 0, 0, 0), api.OK)
		look(structWord(-6, 0, 0), api.Obj{}, api.ErrBounds)
		look(structWord(-1, 0, 0), structAt(seg, 4, 0, 0), api.OK)
		look(structWord(5, 0, 0), structAt(seg, 10, 0, 0), api.OK)
		look(structWord(6, 0, 0), api.Obj{}, api.ErrBounds)
		for _, size := range []int{api.OfBytes, api.OfWords, api.OfPtrs} {
			look(listWord(-5, size, 0), listAt(seg, 0, size, 0), api.OK)
			look(listWord(-6, size, 0), api.Obj{}, api.ErrBounds)
			look(listWord(5, size, 0), listAt(seg, 10, size, 0), api.OK)
			look(listWord(6, size, 0), api.Obj{}, api.ErrBounds)
		}
	}
}

// TestFollowOfSizesThatNoListHas tells that ahead of where the list lies.
func TestFollowOfSizesThatNoListHas(t *testing.T) {
	for size := range 8 {
		err := api.ErrKind
		if size == api.OfBytes || size == api.OfWords || size == api.OfPtrs {
			err = api.ErrBounds
		} else {
			followed(t, api.Arena{behind(9, listWord(0, size, 1))}, 0, 0, api.Obj{}, api.ErrKind)
			followed(t, api.Arena{behind(9, listWord(0, size, 0))}, 0, 0, api.Obj{}, api.ErrKind)
		}
		for _, word := range []uint64{listWord(9, size, 1), listWord(-2, size, 0), listWord(0, size, 1<<29-1)} {
			followed(t, api.Arena{behind(9, word)}, 0, 0, api.Obj{}, err)
			followed(t, api.Arena{{farWord(1, 0)}, behind(9, word)}, 0, 0, api.Obj{}, err)
		}
		followed(t, api.Arena{{doubleWord(1, 0)}, {farWord(2, 1), listWord(0, size, 65)}, ones(9)}, 0, 0, api.Obj{}, err)
	}
}

func TestFollowOfCapabilities(t *testing.T) {
	for _, word := range []uint64{capability, capability | 1<<2, capability | 7<<32, math.MaxUint64} {
		followed(t, api.Arena{{word, 0, 0}}, 0, 0, api.Obj{}, api.ErrKind)
	}
}

func TestFollowOfFarPointers(t *testing.T) {
	look := func(landing uint64, want api.Obj, err api.Errno) {
		a := api.Arena{ones(4), ones(3), ones(10)}
		a[0][2] = farWord(2, 4)
		a[2][4] = landing
		followed(t, a, 0, 2, want, err)
	}
	look(structWord(0, 1, 2), structAt(2, 5, 1, 2), api.OK)
	look(structWord(-5, 4, 6), structAt(2, 0, 4, 6), api.OK)
	look(structWord(-6, 4, 6), api.Obj{}, api.ErrBounds)
	look(structWord(0, 2, 3), structAt(2, 5, 2, 3), api.OK)
	look(structWord(0, 2, 4), api.Obj{}, api.ErrBounds)
	look(structWord(5, 0, 0), structAt(2, 10, 0, 0), api.OK)
	look(structWord(6, 0, 0), api.Obj{}, api.ErrBounds)
	look(listWord(1, api.OfBytes, 32), listAt(2, 6, api.OfBytes, 32), api.OK)
	look(listWord(1, api.OfBytes, 33), api.Obj{}, api.ErrBounds)
	look(listWord(0, api.OfWords, 5), listAt(2, 5, api.OfWords, 5), api.OK)
	look(listWord(0, api.OfPtrs, 5), listAt(2, 5, api.OfPtrs, 5), api.OK)
	look(listWord(0, api.OfPtrs, 6), api.Obj{}, api.ErrBounds)
	look(0, api.Obj{}, api.ErrKind)
	look(farWord(2, 4), api.Obj{}, api.ErrKind)
	look(farWord(1, 0), api.Obj{}, api.ErrKind)
	look(doubleWord(1, 0), api.Obj{}, api.ErrKind)
	look(capability, api.Obj{}, api.ErrKind)
}

// TestFollowOfFarPointersToNowhere has landing places that are not there, or half of which is not.
func TestFollowOfFarPointersToNowhere(t *testing.T) {
	pads := []uint64{farWord(1, 2), listWord(0, api.OfWords, 0)}
	for _, word := range []uint64{
		farWord(1, 2), farWord(2, 0), farWord(math.MaxUint32, 0), farWord(1, 1<<29-1), farWord(math.MaxUint32, 1<<29-1),
		doubleWord(1, 1), doubleWord(1, 2), doubleWord(1, 1<<29-1), doubleWord(2, 0), doubleWord(math.MaxUint32, 1<<29-1),
	} {
		followed(t, api.Arena{{word}, pads}, 0, 0, api.Obj{}, api.ErrBounds)
	}
	followed(t, api.Arena{{farWord(1, 1)}, pads}, 0, 0, listAt(1, 2, api.OfWords, 0), api.OK)
	followed(t, api.Arena{{doubleWord(1, 0)}, pads}, 0, 0, listAt(1, 2, api.OfWords, 0), api.OK)
}

func TestFollowOfDoubleFarPointers(t *testing.T) {
	look := func(first, second uint64, want api.Obj, err api.Errno) {
		a := api.Arena{ones(4), ones(5), ones(10)}
		a[0][2] = doubleWord(1, 3)
		a[1][3], a[1][4] = first, second
		followed(t, a, 0, 2, want, err)
	}
	look(farWord(2, 4), structWord(0, 3, 3), structAt(2, 4, 3, 3), api.OK)
	look(farWord(2, 4), structWord(0, 3, 4), api.Obj{}, api.ErrBounds)
	look(farWord(2, 0), structWord(0, 5, 5), structAt(2, 0, 5, 5), api.OK)
	look(farWord(2, 0), structWord(0, 5, 6), api.Obj{}, api.ErrBounds)
	look(farWord(2, 9), structWord(0, 0, 1), structAt(2, 9, 0, 1), api.OK)
	look(farWord(2, 10), structWord(0, 0, 1), api.Obj{}, api.ErrBounds)
	look(farWord(3, 0), structWord(0, 0, 1), api.Obj{}, api.ErrBounds)
	look(farWord(math.MaxUint32, 1<<29-1), structWord(0, 0, 1), api.Obj{}, api.ErrBounds)
	look(farWord(1, 0), structWord(0, 5, 0), structAt(1, 0, 5, 0), api.OK) // over the landing place itself
	look(farWord(0, 0), listWord(0, api.OfBytes, 32), listAt(0, 0, api.OfBytes, 32), api.OK)
	look(farWord(0, 0), listWord(0, api.OfBytes, 33), api.Obj{}, api.ErrBounds)
	look(farWord(2, 5), listWord(0, api.OfWords, 5), listAt(2, 5, api.OfWords, 5), api.OK)
	look(farWord(2, 5), listWord(0, api.OfWords, 6), api.Obj{}, api.ErrBounds)
	look(farWord(2, 5), listWord(0, api.OfPtrs, 5), listAt(2, 5, api.OfPtrs, 5), api.OK)
	look(farWord(2, 6), listWord(0, api.OfPtrs, 5), api.Obj{}, api.ErrBounds)
	for _, size := range []int{api.OfBytes, api.OfWords, api.OfPtrs} {
		look(farWord(2, 10), listWord(0, size, 0), listAt(2, 10, size, 0), api.OK)
		look(farWord(2, 11), listWord(0, size, 0), api.Obj{}, api.ErrBounds)
		look(farWord(3, 0), listWord(0, size, 0), api.Obj{}, api.ErrBounds)
	}
}

// TestFollowOfDoubleFarPointersToOtherWords has all kinds of words as the first one and as the second one, and only one of them is right.
func TestFollowOfDoubleFarPointersToOtherWords(t *testing.T) {
	firsts := []uint64{farWord(2, 4), doubleWord(2, 4), 0, structWord(0, 1, 1), structWord(0, 1, 0), listWord(0, api.OfWords, 1), capability}
	seconds := []uint64{structWord(0, 1, 0), structWord(1, 1, 0), structWord(-1, 1, 0), structWord(-1, 0, 0), listWord(1, api.OfWords, 1), listWord(-1, api.OfBytes, 0), 0, farWord(2, 4), farWord(2, 0), doubleWord(2, 4), capability}
	for i, first := range firsts {
		for j, second := range seconds {
			a := api.Arena{{doubleWord(1, 0)}, {first, second}, ones(9)}
			if i == 0 && j == 0 {
				followed(t, a, 0, 0, structAt(2, 4, 1, 0), api.OK)
			} else {
				followed(t, a, 0, 0, api.Obj{}, api.ErrKind)
			}
		}
		// The second one is read ahead of the first one's being decoded.
		followed(t, api.Arena{{doubleWord(1, 0)}, {first}, ones(9)}, 0, 0, api.Obj{}, api.ErrBounds)
	}
}

// TestFollowOfNoWord has segments and words below 0, beyond the last one, and at the ends of their numbers.
func TestFollowOfNoWord(t *testing.T) {
	a := api.Arena{{structWord(-1, 0, 0)}, {}, {structWord(0, 1, 0), 7}}
	for _, n := range ends() {
		if n != 0 && n != 2 {
			followed(t, a, n, 0, api.Obj{}, api.ErrBounds)
		}
		if n != 0 {
			followed(t, a, 0, n, api.Obj{}, api.ErrBounds)
			followed(t, api.Arena{{7}}, n, n, api.Obj{}, api.ErrBounds)
		}
		followed(t, a, 1, n, api.Obj{}, api.ErrBounds)
		followed(t, nil, n, 0, api.Obj{}, api.ErrBounds)
		followed(t, nil, 0, n, api.Obj{}, api.ErrBounds)
	}
	followed(t, a, 2, 0, structAt(2, 1, 1, 0), api.OK)
	followed(t, a, 2, 2, api.Obj{}, api.ErrBounds)
}

// TestFollowOfWordsAtTheEndsOfNumbers has a source that has a word anywhere, and sizes at the ends of their numbers.
func TestFollowOfWordsAtTheEndsOfNumbers(t *testing.T) {
	for _, c := range []struct {
		at, off, count, size int
		want                 int // At, or -1 where that is out of bounds
	}{
		{math.MaxInt, 0, 0, math.MaxInt, -1},
		{math.MaxInt, 0, 1, math.MaxInt, -1},
		{math.MaxInt, -1, 0, math.MaxInt, math.MaxInt},
		{math.MaxInt, -1, 1, math.MaxInt, -1},
		{math.MaxInt, -2, 1, math.MaxInt, math.MaxInt - 1},
		{math.MaxInt, -2, 2, math.MaxInt, -1},
		{math.MaxInt, 1<<29 - 1, 1, math.MaxInt, -1},
		{math.MaxInt - 5, 4, 0, math.MaxInt, math.MaxInt},
		{math.MaxInt - 5, 5, 0, math.MaxInt, -1},
		{math.MaxInt - 1<<29, 1<<29 - 1, 0, math.MaxInt, math.MaxInt},
		{math.MinInt, -2, 0, math.MaxInt, -1},
		{math.MinInt, -2, 1, math.MaxInt, -1},
		{math.MinInt, -1 << 29, 1, math.MaxInt, -1},
		{math.MinInt + 1, -3, 1, math.MaxInt, -1},
		{math.MinInt, -1, 0, math.MaxInt, -1},
		{-5, 10, 1, 9, 6},
		{-5, 4, 9, 9, 0},
		{-5, 3, 1, 9, -1},
		{3, 0, 1, math.MinInt, -1},
		{3, 0, 0, -1, -1},
		{3, 0, 0, 4, 4},
	} {
		want, err := listAt(1, c.want, api.OfWords, c.count), api.OK
		if c.want < 0 {
			want, err = api.Obj{}, api.ErrBounds
		}
		s := told{word: listWord(c.off, api.OfWords, c.count), sizes: []int{0, c.size}}
		if o, got := Follow(s, 1, c.at); o != want || got != err {
			t.Errorf("Follow of %x as the word %d of %d = %+v, %d, want %+v, %d", s.word, c.at, c.size, o, got, want, err)
		}
	}
}

func TestFollowOfSizesThatAreNone(t *testing.T) {
	for _, sizes := range [][]int{nil, {}, {9}, {9, -1}, {9, math.MinInt}, {math.MaxInt}} {
		if o, err := Follow(told{structWord(0, 1, 0), sizes}, 1, 0); o != (api.Obj{}) || err != api.ErrBounds {
			t.Errorf("Follow in segment 1 of sizes %v = %+v, %d", sizes, o, err)
		}
	}
	for _, seg := range []int{math.MinInt, -1, 2, math.MaxInt} {
		if o, err := Follow(told{structWord(0, 1, 0), []int{9, 9}}, seg, 0); o != (api.Obj{}) || err != api.ErrBounds {
			t.Errorf("Follow in segment %d of 2 = %+v, %d", seg, o, err)
		}
	}
}

func TestFollowOfNoSource(t *testing.T) {
	for _, n := range []int{math.MinInt, -1, 0, 1, math.MaxInt} {
		for _, s := range []Source{nil, (*mine)(nil), (*whole)(nil), (*broken)(nil)} {
			if o, err := Follow(s, n, 0); o != (api.Obj{}) || err != api.ErrBounds {
				t.Errorf("Follow of a nil %T = %+v, %d", s, o, err)
			}
			if o, err := Follow(s, 0, n); o != (api.Obj{}) || err != api.ErrBounds {
				t.Errorf("Follow of a nil %T = %+v, %d", s, o, err)
			}
		}
	}
}

// A lead is an arena, the words that are read behind its first one, that one included, and what it leads to.
type lead struct {
	a    api.Arena
	read []place
	want api.Obj
}

// leads have one for each way in which a pointer leads.
func leads() []lead {
	return []lead{
		{api.Arena{{0}}, []place{{0, 0}}, api.Obj{}},
		{api.Arena{{structWord(0, 1, 1), 7, 0}}, []place{{0, 0}}, structAt(0, 1, 1, 1)},
		{api.Arena{{listWord(0, api.OfPtrs, 2), 0, 0}}, []place{{0, 0}}, listAt(0, 1, api.OfPtrs, 2)},
		{api.Arena{{farWord(1, 2)}, {7, 7, structWord(-3, 2, 0)}}, []place{{0, 0}, {1, 2}}, structAt(1, 0, 2, 0)},
		{api.Arena{{doubleWord(2, 1)}, {7, 7}, {7, farWord(1, 1), listWord(0, api.OfBytes, 8)}}, []place{{0, 0}, {2, 1}, {2, 2}}, listAt(1, 1, api.OfBytes, 8)},
	}
}

// TestFollowReadsPointersAlone reads no word that is not on the way.
func TestFollowReadsPointersAlone(t *testing.T) {
	for i, c := range leads() {
		s := &mine{a: c.a}
		if o, err := Follow(s, 0, 0); o != c.want || err != api.OK {
			t.Errorf("lead %d: Follow = %+v, %d, want %+v", i, o, err, c.want)
		}
		if !slices.Equal(s.read, c.read) {
			t.Errorf("lead %d: %v were read, want %v", i, s.read, c.read)
		}
	}
}

// TestFollowTellsTheSourcesErrors has one at each of the words that are read.
func TestFollowTellsTheSourcesErrors(t *testing.T) {
	for i, c := range leads() {
		for n := 1; n <= len(c.read)+1; n++ {
			for _, fails := range []api.Errno{api.ErrNotYet, api.ErrBounds, api.ErrArg, api.ErrNone, 999, math.MaxUint16} {
				want, err := api.Obj{}, fails
				if n > len(c.read) {
					want, err = c.want, api.OK
				}
				s := &mine{a: c.a, fails: n, err: fails}
				if o, got := Follow(s, 0, 0); o != want || got != err {
					t.Errorf("lead %d, error %d at the word %d: Follow = %+v, %d", i, fails, n, o, got)
				}
				if len(s.read) != min(n, len(c.read)) {
					t.Errorf("lead %d, error at the word %d: %v were read", i, n, s.read)
				}
			}
		}
	}
}

// TestFollowOfAWordThatIsNotYetThere tells that of a double landing place's second word, though the first one is of no kind.
func TestFollowOfAWordThatIsNotYetThere(t *testing.T) {
	for _, first := range []uint64{capability, 0, doubleWord(0, 0)} {
		s := &mine{a: api.Arena{{doubleWord(0, 1), first, structWord(0, 0, 1)}}, fails: 3, err: api.ErrNotYet}
		if o, err := Follow(s, 0, 0); o != (api.Obj{}) || err != api.ErrNotYet {
			t.Errorf("Follow over a first word %x = %+v, %d, want ErrNotYet", first, o, err)
		}
	}
}

func TestFollowOfSourcesThatPanic(t *testing.T) {
	for i, c := range leads() {
		for n := range c.read {
			s := &broken{mine: mine{a: c.a, fails: n + 1}}
			if o, err := Follow(s, 0, 0); o != (api.Obj{}) || err != api.ErrBounds {
				t.Errorf("lead %d, a panic at the word %d: Follow = %+v, %d, want ErrBounds", i, n, o, err)
			}
		}
		want := api.ErrBounds
		if c.want.Kind == api.Null {
			want = api.OK // it asks for no sizes
		}
		if o, err := Follow(&broken{mine: mine{a: c.a}, sizeless: true}, 0, 0); o != (api.Obj{}) || err != want {
			t.Errorf("lead %d, a panic at its sizes: Follow = %+v, %d, want %d", i, o, err, want)
		}
	}
}

func TestWords(t *testing.T) {
	for _, c := range []struct {
		o    api.Obj
		want int
	}{
		{api.Obj{}, 0},
		{structAt(0, 0, 0, 0), 0}, {structAt(3, 9, 1, 0), 1}, {structAt(0, 1, 0, 1), 1}, {structAt(0, 1, 5, 7), 12}, {structAt(0, 1, math.MaxUint16, math.MaxUint16), 2 * math.MaxUint16},
		{listAt(0, 1, api.OfBytes, 0), 0}, {listAt(0, 1, api.OfBytes, 1), 1}, {listAt(0, 1, api.OfBytes, 7), 1}, {listAt(0, 1, api.OfBytes, 8), 1},
		{listAt(2, 4, api.OfBytes, 9), 2}, {listAt(0, 1, api.OfBytes, 16), 2}, {listAt(0, 1, api.OfBytes, 17), 3}, {listAt(0, 1, api.OfBytes, 1<<29-1), 1 << 26},
		{listAt(0, 1, api.OfWords, 0), 0}, {listAt(0, 1, api.OfWords, 9), 9}, {listAt(0, 1, api.OfWords, 1<<29-1), 1<<29 - 1},
		{listAt(0, 1, api.OfPtrs, 0), 0}, {listAt(5, 0, api.OfPtrs, 17), 17},
	} {
		if got := Words(c.o); got != c.want {
			t.Errorf("Words of %+v = %d, want %d", c.o, got, c.want)
		}
	}
}

// TestWordsOfStrangeThings ends, whatever it tells.
func TestWordsOfStrangeThings(t *testing.T) {
	for _, n := range ends() {
		for kind := -1; kind < 5; kind++ {
			Words(api.Obj{Kind: kind, Seg: n, At: n, Data: n, Ptrs: n, Size: n, Count: n})
			Words(api.Obj{Kind: kind, Size: api.OfBytes, Count: n})
		}
		Words(api.Obj{Kind: n, Data: 1})
	}
}

func TestWhole(t *testing.T) {
	a := api.Arena{{7, 8, 9}, {}, {10, 11}}
	s := Whole(a)
	if got := s.Sizes(); !slices.Equal(got, []int{3, 0, 2}) {
		t.Errorf("Sizes = %v", got)
	}
	for seg, words := range a {
		for at, want := range words {
			if w, err := s.Word(seg, at); w != want || err != api.OK {
				t.Errorf("Word %d of segment %d = %d, %d, want %d", at, seg, w, err, want)
			}
		}
		if w, err := s.Word(seg, len(words)); w != 0 || err != api.ErrBounds {
			t.Errorf("Word behind segment %d = %d, %d", seg, w, err)
		}
	}
	for _, n := range ends() {
		if w, err := s.Word(1, n); w != 0 || err != api.ErrBounds {
			t.Errorf("Word %d of no words = %d, %d", n, w, err)
		}
		if n < 0 || n > 2 {
			if w, err := s.Word(n, 0); w != 0 || err != api.ErrBounds {
				t.Errorf("Word of segment %d = %d, %d", n, w, err)
			}
		}
	}
}

// TestWholeOfWhatIsNotRight has its words all the same.
func TestWholeOfWhatIsNotRight(t *testing.T) {
	for _, a := range []api.Arena{nil, {}} {
		s := Whole(a)
		if w, err := s.Word(0, 0); len(s.Sizes()) != 0 || w != 0 || err != api.ErrBounds {
			t.Errorf("of nothing: Sizes %v, Word %d, %d", s.Sizes(), w, err)
		}
	}
	many := make(api.Arena, 17)
	many[16] = ones(5000)
	s := Whole(many)
	if w, err := s.Word(16, 4999); w != many[16][4999] || err != api.OK || len(s.Sizes()) != 17 || s.Sizes()[16] != 5000 {
		t.Errorf("of too many: Sizes %v, Word %d, %d", s.Sizes(), w, err)
	}
	followed(t, append(api.Arena{{farWord(16, 9)}}, many[1:]...), 0, 0, api.Obj{}, api.ErrKind)
}

// TestWholeIsNewMemory spoils the arena behind it, and what it told.
func TestWholeIsNewMemory(t *testing.T) {
	a := api.Arena{{7, 8, 9}, {10}}
	s, other := Whole(a), Whole(a)
	clear(s.Sizes())
	clear(a[0])
	a[1] = nil
	for _, s := range []Source{s, other} {
		first, _ := s.Word(0, 2)
		second, _ := s.Word(1, 0)
		if first != 9 || second != 10 || !slices.Equal(s.Sizes(), []int{3, 1}) {
			t.Errorf("a source has %d, %d, and sizes %v", first, second, s.Sizes())
		}
	}
}

// TestWholeLooksAtNothingBehindALength has words there that are no more a segment's.
func TestWholeLooksAtNothingBehindALength(t *testing.T) {
	long := api.Arena{{structWord(0, 1, 0), 7, 8}, {9}}
	a := long[:1:1]
	a[0] = a[0][:1]
	s := Whole(a)
	if w, err := s.Word(0, 1); w != 0 || err != api.ErrBounds {
		t.Errorf("Word behind a length = %d, %d", w, err)
	}
	if w, err := s.Word(1, 0); w != 0 || err != api.ErrBounds {
		t.Errorf("Word of a segment behind the length = %d, %d", w, err)
	}
	followed(t, a, 0, 0, api.Obj{}, api.ErrBounds)
	if text(long[0][:3]) != text([]uint64{structWord(0, 1, 0), 7, 8}) {
		t.Error("what lies behind a length was changed")
	}
}
