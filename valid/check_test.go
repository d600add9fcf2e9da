package valid

import (
	"math/rand/v2"
	"slices"
	"testing"

	"sculler/api"
	"sculler/arena"
	"sculler/build"
	"sculler/read"
	"sculler/tree"
)

// refused looks whether an arena may not be sent, and why, by all calls that say so.
func refused(t *testing.T, a api.Arena, want api.Errno) {
	t.Helper()
	if err := Check(a); err != want {
		t.Errorf("Check of %.300s = %d, want %d", text(a), err, want)
	}
	if c, err := Canon(a); c != nil || err != want {
		t.Errorf("Canon of %.300s = an arena of %d segments, %d, want nil, %d", text(a), len(c), err, want)
	}
	good := api.Arena{{0}}
	if Equal(a, a) || Equal(a, copied(a)) || Equal(a, good) || Equal(good, a) {
		t.Errorf("%.300s is Equal to something", text(a))
	}
}

// passed looks whether an arena may be sent, and has this Canon.
func passed(t *testing.T, a, canon api.Arena) {
	t.Helper()
	if err := Check(a); err != api.OK {
		t.Errorf("Check of %.300s = %d", text(a), err)
	}
	if c, err := Canon(a); !arena.Same(c, canon) || err != api.OK {
		t.Errorf("Canon of %.300s = %.300s, %d, want %.300s", text(a), text(c), err, text(canon))
	}
	if !Equal(a, a) || !Equal(a, canon) || !Equal(canon, a) {
		t.Errorf("%.300s is not Equal to its Canon", text(a))
	}
}

// tooGreat looks whether an arena may be sent, but has no Canon.
func tooGreat(t *testing.T, a api.Arena) {
	t.Helper()
	if err := Check(a); err != api.OK {
		t.Errorf("Check of %.300s = %d", text(a), err)
	}
	if c, err := Canon(a); c != nil || err != api.ErrFull {
		t.Errorf("Canon of %.300s = an arena of %d segments, %d, want nil, ErrFull", text(a), len(c), err)
	}
	if !Equal(a, copied(a)) {
		t.Errorf("%.300s is not Equal to itself", text(a))
	}
}

// TestWhatWasBuiltMayBeSent has it in one segment and in several.
func TestWhatWasBuiltMayBeSent(t *testing.T) {
	several := 0
	for _, tree := range everyTree() {
		// A Canon's Canon is itself, because it is one of those that were built.
		canon := built(t, tree, api.MaxWords)
		if len(canon) != 1 {
			t.Fatalf("the arena of %v has %d segments", tree, len(canon))
		}
		l := builds(tree)
		for _, a := range l {
			passed(t, a, canon)
			if !Equal(a, l[0]) || !Equal(l[0], a) {
				t.Errorf("%x is not Equal to %x", a, l[0])
			}
			if len(a) > 1 {
				several++
			}
		}
	}
	if several < 300 {
		t.Errorf("only %d arenas of several segments", several)
	}
}

// TestEqualIsOfTheSameTreeAlone has each of many trees against each other one.
func TestEqualIsOfTheSameTreeAlone(t *testing.T) {
	l := trees()
	arenas := make([][]api.Arena, len(l))
	for i, tree := range l {
		arenas[i] = builds(tree)
	}
	for i := range l {
		for k := range l {
			first, last := arenas[i][0], arenas[k][len(arenas[k])-1]
			if Equal(first, last) != (i == k) {
				t.Errorf("Equal(%x, %x) = %t", first, last, i != k)
			}
		}
	}
}

// TestOneTreeInManyWays has it lie otherwise than it was built.
func TestOneTreeInManyWays(t *testing.T) {
	const abc = 'a' | 'b'<<8 | 'c'<<16
	canon := api.Arena{{structWord(0, 1, 1), 7, listWord(0, api.OfBytes, 3), abc}}
	for what, a := range map[string]api.Arena{
		"as it was built":                   canon,
		"words that nothing leads to":       {{structWord(2, 1, 1), 8, 9, 7, listWord(1, api.OfBytes, 3), 9, abc, 9}, {7}, {}},
		"other bytes behind the last one":   {{structWord(0, 1, 1), 7, listWord(0, api.OfBytes, 3), abc | 0xfefdfcfbfa<<24}},
		"a Kid ahead of what has it":        {{structWord(1, 1, 1), abc, 7, listWord(-3, api.OfBytes, 3)}},
		"landing places":                    {{farWord(1, 1)}, {9, structWord(0, 1, 1), 7, farWord(2, 0)}, {listWord(0, api.OfBytes, 3), abc}},
		"landing places of two words":       {{doubleWord(1, 0)}, {farWord(2, 1), structWord(0, 1, 1)}, {abc, 7, listWord(-3, api.OfBytes, 3)}},
		"a landing place in its own places": {{farWord(0, 3), 7, listWord(1, api.OfBytes, 3), structWord(-3, 1, 1), abc}},
	} {
		t.Run(what, func(t *testing.T) { passed(t, a, canon) })
	}
	// By one word that is a struct's and a list's as well, the tree is another one.
	passed(t, api.Arena{{structWord(0, 1, 1), abc, listWord(-2, api.OfBytes, 3)}}, api.Arena{{structWord(0, 1, 1), abc, listWord(0, api.OfBytes, 3), abc}})
}

func TestThingsThatAreLedToTwice(t *testing.T) {
	pair := wordsOf(upTo(3)...)
	a := severalTimes(2, 3, func(off int) uint64 { return listWord(off, api.OfWords, 3) })
	passed(t, a, built(t, listOf(pair, pair), api.MaxWords))
	if !Equal(a, built(t, listOf(pair, pair), 5)) {
		t.Error("a thing that is led to twice is not Equal to two of the same")
	}
	deep := record([]uint64{7}, record([]uint64{7}), api.Node{})
	passed(t, api.Arena{{structWord(0, 1, 2), 7, structWord(-2, 1, 0), 0}}, built(t, deep, api.MaxWords))
	// What lies in itself has no end.
	refused(t, around(0), api.ErrDepth)
	refused(t, api.Arena{{structWord(-1, 0, 1)}}, api.ErrDepth)
	refused(t, api.Arena{{listWord(-1, api.OfPtrs, 1)}}, api.ErrDepth)
}

// TestCanonByTheRoomThereIs has trees that just fit into a segment, or do not, by one word.
func TestCanonByTheRoomThereIs(t *testing.T) {
	for _, c := range []struct {
		data, words int
		fits        bool
	}{{1, 2046, true}, {2, 2046, false}, {1, 2047, false}, {0, 2046, true}, {3, 2045, true}, {4, 2045, false}} {
		// A pointer, a struct of some words and two pointers, and twice the list that there is once.
		words := append([]uint64{structWord(0, c.data, 2)}, upTo(c.data)...)
		words = append(words, listWord(1, api.OfWords, c.words), listWord(0, api.OfWords, c.words))
		a := api.Arena{append(words, upTo(c.words)...)}
		if !c.fits {
			tooGreat(t, a)
			continue
		}
		l := wordsOf(upTo(c.words)...)
		passed(t, a, built(t, record(upTo(c.data), l, l), api.MaxWords))
	}
	// Whole at a cost of 8192, the most that there may be.
	tooGreat(t, costing(1))
	refused(t, costing(2), api.ErrCost)
	passed(t, api.Arena{append([]uint64{listWord(0, api.OfWords, 4095)}, upTo(4095)...)}, built(t, wordsOf(upTo(4095)...), api.MaxWords))
	passed(t, api.Arena{append([]uint64{listWord(0, api.OfPtrs, 4095)}, make([]uint64, 4095)...)}, built(t, listOf(make([]api.Node, 4095)...), api.MaxWords))
}

// costing has a tree of three lists that are one, which with a struct of so many words costs 8191 and as many.
func costing(data int) api.Arena {
	words := append([]uint64{structWord(0, data, 3)}, upTo(data)...)
	for off := range 3 {
		words = append(words, listWord(2-off, api.OfWords, 2728))
	}
	return api.Arena{append(words, upTo(2728)...)}
}

func TestWhatIsNoArena(t *testing.T) {
	for _, a := range []api.Arena{
		nil, {}, {nil}, {{}}, {{}, {0}}, make(api.Arena, 17), append(api.Arena{{0}}, make(api.Arena, 16)...),
		{make([]uint64, 4097)}, {{0}, make([]uint64, 4096)}, {{}, {capability}}, {{structWord(9, 1, 0)}, make([]uint64, 4096)},
	} {
		refused(t, a, api.ErrArg)
		if l, err := Touched(a, path(-1)); l != nil || err != api.ErrArg {
			t.Errorf("Touched of an arena of %d segments = %v, %d, want ErrArg", len(a), l, err)
		}
	}
	for _, a := range []api.Arena{{{0}}, append(api.Arena{{0}}, make(api.Arena, 15)...), {make([]uint64, 4096)}, {{0}, nil, make([]uint64, 4095)}} {
		passed(t, a, api.Arena{{0}})
	}
}

// TestErrorsOfDecode has bad words as the root, and as a Kid.
func TestErrorsOfDecode(t *testing.T) {
	for _, c := range []struct {
		bad  uint64
		want api.Errno
	}{
		{capability, api.ErrKind}, {listWord(0, 4, 0), api.ErrKind}, {farWord(1, 0), api.ErrKind}, {farWord(1, 1), api.ErrKind}, {doubleWord(1, 0), api.ErrKind},
		{structWord(9, 1, 0), api.ErrBounds}, {structWord(-9, 1, 0), api.ErrBounds}, {listWord(0, api.OfBytes, 1<<29-1), api.ErrBounds}, {structWord(0, 1<<16-1, 1<<16-1), api.ErrBounds},
		{farWord(9, 0), api.ErrBounds}, {farWord(1, 9), api.ErrBounds}, {doubleWord(1, 1), api.ErrBounds},
	} {
		refused(t, api.Arena{{c.bad}, {0, farWord(0, 0)}}, c.want)
		refused(t, api.Arena{{structWord(0, 1, 2), 7, 0, c.bad}, {0, farWord(0, 0)}}, c.want)
		refused(t, api.Arena{{farWord(2, 0)}, {0, farWord(0, 0)}, {listWord(0, api.OfPtrs, 1), c.bad}}, c.want)
		// A bad word that no pointer leads to is none.
		passed(t, api.Arena{{structWord(0, 1, 1), c.bad, 0}, {c.bad}}, api.Arena{{structWord(0, 1, 1), c.bad, 0}})
	}
}

// chain is so many structs one in the other, each a pointer alone; the last word is as it is told.
func chain(n int, last uint64) []uint64 {
	words := slices.Repeat([]uint64{structWord(0, 0, 1)}, n)
	return append(words, last)
}

func TestHowDeepAnArenaMayBe(t *testing.T) {
	passed(t, api.Arena{chain(32, 0)}, api.Arena{chain(32, 0)})
	passed(t, api.Arena{chain(31, structWord(-1, 0, 0))}, api.Arena{chain(31, structWord(-1, 0, 0))})
	refused(t, api.Arena{chain(33, 0)}, api.ErrDepth)
	refused(t, api.Arena{chain(32, structWord(-1, 0, 0))}, api.ErrDepth)
	refused(t, api.Arena{chain(32, listWord(0, api.OfBytes, 0))}, api.ErrDepth)
}

// wide are arenas of trees that are not build.Right: a struct of too many words, or Kids, and a list of too many bytes.
func wide() []api.Arena {
	return []api.Arena{
		{append([]uint64{structWord(0, 101, 0)}, upTo(101)...)},
		{append([]uint64{structWord(0, 0, 101)}, make([]uint64, 101)...)},
		{append([]uint64{structWord(0, 101, 101)}, make([]uint64, 202)...)},
		{append([]uint64{listWord(0, api.OfBytes, 4097)}, upTo(513)...)},
		{append([]uint64{listWord(0, api.OfBytes, 8*4095)}, upTo(4095)...)},
		{append([]uint64{structWord(0, 2000, 2000)}, make([]uint64, 4000)...)},
		{{structWord(0, 0, 2), 0, farWord(1, 0)}, append([]uint64{structWord(0, 101, 0)}, upTo(101)...)},
		{{listWord(0, api.OfPtrs, 1), farWord(1, 0)}, append([]uint64{listWord(0, api.OfBytes, 4097)}, upTo(513)...)},
	}
}

func TestTreesThatAreNotRight(t *testing.T) {
	for _, a := range wide() {
		refused(t, a, api.ErrKind)
		// Its words may be read none the less.
		if _, err := Touched(a, path(-1)); err != api.OK {
			t.Errorf("Touched of %.300s = %d", text(a), err)
		}
	}
	for _, tree := range []api.Node{record(upTo(100)), record(nil, make([]api.Node, 100)...), record(upTo(100), make([]api.Node, 100)...), bytesOf(string(make([]byte, 4096)))} {
		canon := built(t, tree, api.MaxWords)
		passed(t, canon, canon)
	}
}

// TestWhichErrorComes has arenas of which two errors would be true.
func TestWhichErrorComes(t *testing.T) {
	// Decode's ahead of that of a tree that is not Right, wherever that is.
	refused(t, api.Arena{append([]uint64{structWord(0, 101, 1)}, append(upTo(101), structWord(9, 1, 0))...)}, api.ErrBounds)
	refused(t, api.Arena{append([]uint64{structWord(0, 101, 1)}, append(upTo(101), structWord(-102, 101, 1))...)}, api.ErrDepth)
	refused(t, api.Arena{{structWord(0, 0, 2), farWord(1, 0), farWord(9, 9)}, append([]uint64{structWord(0, 101, 0)}, upTo(101)...)}, api.ErrBounds)
	refused(t, severalTimes(90, 101, func(off int) uint64 { return structWord(off, 101, 0) }), api.ErrCost)
	// That of a tree that is not Right ahead of that of one that is too great.
	refused(t, severalTimes(50, 101, func(off int) uint64 { return structWord(off, 101, 0) }), api.ErrKind)
	refused(t, severalTimes(8, 513, func(off int) uint64 { return listWord(off, api.OfBytes, 4097) }), api.ErrKind)
	tooGreat(t, severalTimes(8, 512, func(off int) uint64 { return listWord(off, api.OfBytes, 4096) }))
	tooGreat(t, severalTimes(50, 100, func(off int) uint64 { return structWord(off, 100, 0) }))
	// The segments are looked at ahead of all words.
	refused(t, append(api.Arena{{capability}}, make(api.Arena, 16)...), api.ErrArg)
	refused(t, api.Arena{append(chain(33, 0), make([]uint64, 4096)...)}, api.ErrArg)
	// Depth ahead of cost, thing by thing, and cost ahead of depth, where it is reached first.
	refused(t, api.Arena{append([]uint64{listWord(-1, api.OfPtrs, 255)}, make([]uint64, 254)...)}, api.ErrDepth)
	refused(t, api.Arena{append([]uint64{listWord(-1, api.OfPtrs, 256)}, make([]uint64, 255)...)}, api.ErrCost)
}

func TestEqualOfWhatMayNotBeSent(t *testing.T) {
	for _, a := range append(wide(), nil, api.Arena{{capability}}, api.Arena{chain(33, 0)}, costing(2), api.Arena{{farWord(1, 0)}}) {
		for _, b := range []api.Arena{{{0}}, a, built(t, sample(), 9)} {
			if Equal(a, b) || Equal(b, a) {
				t.Errorf("%.300s is Equal to %.300s", text(a), text(b))
			}
		}
	}
}

// asDefined looks whether Check, Canon and Equal tell of an arena what the layers below tell of its tree; it tells which error that is.
func asDefined(t *testing.T, a, other api.Arena) api.Errno {
	t.Helper()
	tr, want := tree.Decode(a)
	if want == api.OK && !build.Right(tr) {
		want = api.ErrKind
	}
	otherTree, otherErr := tree.Decode(other)
	if err := Check(a); err != want {
		t.Fatalf("Check of %x = %d, want %d", a, err, want)
	}
	same := want == api.OK && otherErr == api.OK && build.Same(tr, otherTree)
	if Equal(a, other) != same || Equal(other, a) != same {
		t.Fatalf("Equal(%x, %x) = %t", a, other, !same)
	}
	if want != api.OK {
		refused(t, a, want)
		return want
	}
	canon, err := build.Build(tr, api.MaxWords)
	if err != api.OK {
		tooGreat(t, a)
		return err
	}
	passed(t, a, canon)
	readWhole(t, a, tr)
	return api.OK
}

// readWhole looks whether each path of an arena's tree is read, and leads to what it leads to in the tree.
func readWhole(t *testing.T, a api.Arena, tr api.Node) {
	t.Helper()
	for _, p := range tree.Paths(tr, 10000) {
		want, _ := tree.Ask(tr, p)
		if v, err := read.Of(a, p, api.MaxCost); v != want || err != api.OK {
			t.Fatalf("Of %x, %v = %+v, %d, want %+v", a, p, v, err, want)
		}
	}
}

func TestWhatIsCheckedIsReadWhole(t *testing.T) {
	for _, tr := range everyTree() {
		for _, a := range builds(tr) {
			readWhole(t, a, tr)
		}
	}
	a := costing(1)
	tr, _ := tree.Decode(a)
	readWhole(t, a, tr)
}

// TestBentWords has one bit of one word that is another one.
func TestBentWords(t *testing.T) {
	many := map[api.Errno]int{}
	for _, size := range []int{9, 12, api.MaxWords} {
		a := built(t, sample(), size)
		for seg, words := range a {
			for at := range words {
				for bit := range 64 {
					bent := copied(a)
					bent[seg][at] ^= 1 << bit
					many[asDefined(t, bent, a)]++
				}
			}
		}
	}
	for _, end := range []api.Errno{api.OK, api.ErrBounds, api.ErrKind} {
		if many[end] < 100 {
			t.Errorf("error %d: only %d times", end, many[end])
		}
	}
}

// TestBentSegments has them shorter, longer, gone, doubled, and in each other's place.
func TestBentSegments(t *testing.T) {
	for _, tr := range trees() {
		for _, a := range builds(tr) {
			for seg, words := range a {
				// All that was built is needed.
				short := copied(a)
				short[seg] = words[:len(words)-1]
				if len(a[0]) == 1 && seg == 0 {
					refused(t, short, api.ErrArg)
				} else {
					refused(t, short, api.ErrBounds)
				}
				if arena.Words(a) < 9 {
					bentSegment(t, a, seg)
				}
			}
			refused(t, append(api.Arena{{}}, a...), api.ErrArg)
		}
	}
	for _, size := range []int{9, 12, 20} {
		for seg, a := 0, built(t, sample(), size); seg < len(a); seg++ {
			bentSegment(t, a, seg)
		}
	}
}

func bentSegment(t *testing.T, a api.Arena, seg int) {
	t.Helper()
	asDefined(t, slices.Delete(copied(a), seg, seg+1), a)
	asDefined(t, slices.Insert(copied(a), seg, a[seg]), a)
	for other := range a {
		swapped := copied(a)
		swapped[seg], swapped[other] = swapped[other], swapped[seg]
		asDefined(t, swapped, a)
	}
	longer := copied(a)
	longer[seg] = append(longer[seg], capability)
	passed(t, longer, canonOf(t, a))
}

// canonOf is the Canon of an arena that has one.
func canonOf(t *testing.T, a api.Arena) api.Arena {
	t.Helper()
	canon, err := Canon(a)
	if err != api.OK {
		t.Fatalf("Canon of %x: %d", a, err)
	}
	return canon
}

// drawnWord is a pointer, most often one to somewhere a little behind it, or a nought.
func drawnWord(r *rand.Rand, segs, size int) uint64 {
	off := r.IntN(size) - r.IntN(1+r.IntN(3))
	switch r.IntN(13) {
	case 0, 1, 2:
		return 0
	case 3:
		return farWord(r.IntN(segs), r.IntN(size))
	case 4:
		return doubleWord(r.IntN(segs), r.IntN(size))
	case 5, 6:
		return listWord(off, []int{api.OfBytes, api.OfWords, r.IntN(8)}[r.IntN(3)], r.IntN(9))
	case 7, 8:
		return listWord(off, api.OfPtrs, r.IntN(5))
	case 9:
		return r.Uint64()
	case 10:
		return structWord(-1, 0, 0)
	}
	return structWord(off, 1+r.IntN(2), r.IntN(4))
}

// drawnArena is one of some segments, all of their words drawn.
func drawnArena(r *rand.Rand) api.Arena {
	a := make(api.Arena, 1+r.IntN(3))
	size := 2 + r.IntN(20)
	for seg := range a {
		for range size {
			a[seg] = append(a[seg], drawnWord(r, len(a), size))
		}
		// Room for what the last words lead to.
		a[seg] = append(a[seg], make([]uint64, r.IntN(size))...)
	}
	return a
}

func TestDrawnArenas(t *testing.T) {
	many := map[api.Errno]int{}
	r := rand.New(rand.NewPCG(11, 2))
	a := api.Arena{{0}}
	for range 20000 {
		other := a
		a = drawnArena(r)
		many[asDefined(t, a, other)]++
	}
	for _, end := range []api.Errno{api.OK, api.ErrBounds, api.ErrDepth, api.ErrKind} {
		if many[end] < 100 {
			t.Errorf("error %d: only %d times", end, many[end])
		}
	}
}
