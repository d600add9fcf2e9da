package valid

import (
	"math"
	"math/rand/v2"
	"slices"
	"testing"

	"sculler/api"
	"sculler/read"
	"sculler/span"
	"sculler/tree"
)

// touched looks whether a path goes over these places: each pair is a span's From and To.
func touched(t *testing.T, a api.Arena, p api.Path, ends ...int) {
	t.Helper()
	var want []api.Span
	for pair := range slices.Chunk(ends, 2) {
		want = append(want, api.Span{From: pair[0], To: pair[1]})
	}
	if l, err := Touched(a, p); !slices.Equal(l, want) || err != api.OK {
		t.Errorf("Touched of %.300s, %v = %v, %d, want %v", text(a), p, l, err, want)
	}
}

// untouched looks whether there is an error, and which.
func untouched(t *testing.T, a api.Arena, p api.Path, want api.Errno) {
	t.Helper()
	if l, err := Touched(a, p); l != nil || err != want {
		t.Errorf("Touched of %.300s, %v = %v, %d, want nil, %d", text(a), p, l, err, want)
	}
	if v, err := read.Of(a, p, api.MaxCost); v != (api.Value{}) || err != want {
		t.Errorf("Of %.300s, %v = %+v, %d, want %d", text(a), p, v, err, want)
	}
}

func TestExample(t *testing.T) {
	touched(t, built(t, record([]uint64{7}), 9), path(0), 0, 2)
}

// shelf has a list of bytes at the words 6 and 7, one of words at 8 to 10, and one of pointers at 11 and 12, whose first Kid is at 13 and 14.
func shelf() api.Arena {
	return api.Arena{{
		structWord(0, 2, 3), 7, 8, listWord(2, api.OfBytes, 9), listWord(3, api.OfWords, 3), listWord(5, api.OfPtrs, 2),
		0x0807060504030201, 9, 101, 102, 103, structWord(1, 1, 1), 0, 104, structWord(-1, 0, 0),
	}}
}

func TestTouchedOfNearPointers(t *testing.T) {
	a := shelf()
	// The root: what it is, its words, those that it has not.
	touched(t, a, path(-1), 0, 1)
	touched(t, a, path(math.MinInt), 0, 1)
	touched(t, a, path(0), 0, 2)
	touched(t, a, path(1), 0, 1, 2, 3)
	touched(t, a, path(2), 0, 1)
	touched(t, a, path(math.MaxInt), 0, 1)
	// A byte's word.
	touched(t, a, path(-1, 0), 0, 1, 3, 4)
	for at := range 8 {
		touched(t, a, path(at, 0), 0, 1, 3, 4, 6, 7)
	}
	touched(t, a, path(8, 0), 0, 1, 3, 4, 7, 8)
	untouched(t, a, path(9, 0), api.ErrBounds)
	// A word of a list.
	touched(t, a, path(-1, 1), 0, 1, 4, 5)
	touched(t, a, path(0, 1), 0, 1, 4, 5, 8, 9)
	touched(t, a, path(2, 1), 0, 1, 4, 5, 10, 11)
	untouched(t, a, path(3, 1), api.ErrBounds)
	// A Kid, and Kids of it.
	touched(t, a, path(-1, 2), 0, 1, 5, 6)
	untouched(t, a, path(0, 2), api.ErrKind)
	touched(t, a, path(-1, 2, 0), 0, 1, 5, 6, 11, 12)
	touched(t, a, path(0, 2, 0), 0, 1, 5, 6, 11, 12, 13, 14)
	touched(t, a, path(1, 2, 0), 0, 1, 5, 6, 11, 12)
	touched(t, a, path(0, 2, 0, 0), 0, 1, 5, 6, 11, 12, 14, 15)
	touched(t, a, path(-1, 2, 1), 0, 1, 5, 6, 12, 13)
	touched(t, a, path(5, 2, 1), 0, 1, 5, 6, 12, 13)
}

func TestTouchedOfStepsBehindWhatIsThere(t *testing.T) {
	a := shelf()
	// Behind a struct's pointers, and behind Null, there is Null, for which nothing is read.
	touched(t, a, path(-1, 3), 0, 1)
	touched(t, a, path(5, 3, 9, 0), 0, 1)
	touched(t, a, path(0, math.MaxInt), 0, 1)
	touched(t, a, path(0, 2, 1, 4, 5), 0, 1, 5, 6, 12, 13)
	touched(t, a, path(0, 2, 0, 1, 0), 0, 1, 5, 6, 11, 12)
	touched(t, a, path(0, 2, 0, 0, 3), 0, 1, 5, 6, 11, 12, 14, 15)
	untouched(t, a, path(-1, 2, 2), api.ErrBounds)
	untouched(t, a, path(-1, 2, math.MaxInt), api.ErrBounds)
	untouched(t, a, path(-1, 0, 0), api.ErrKind)
	untouched(t, a, path(-1, 1, 0), api.ErrKind)
	touched(t, api.Arena{{0}}, path(-1), 0, 1)
	touched(t, api.Arena{{0, 1}, {2}}, path(9, 9, 9), 0, 1)
}

func TestTouchedOfFarPointers(t *testing.T) {
	// The places 0 to 2, 3 to 6 and 7 to 9.
	a := api.Arena{{farWord(1, 1), 5, 6}, {9, structWord(0, 1, 1), 71, doubleWord(2, 0)}, {farWord(0, 1), listWord(0, api.OfWords, 2), 9}}
	touched(t, a, path(-1), 0, 1, 4, 5)
	touched(t, a, path(0), 0, 1, 4, 6)
	touched(t, a, path(1), 0, 1, 4, 5)
	touched(t, a, path(-1, 0), 0, 1, 4, 5, 6, 9)
	touched(t, a, path(0, 0), 0, 2, 4, 5, 6, 9)
	touched(t, a, path(1, 0), 0, 1, 2, 3, 4, 5, 6, 9)
	untouched(t, a, path(2, 0), api.ErrBounds)
	// Segments without words have no places.
	a = api.Arena{{doubleWord(3, 1)}, {}, {8}, {9, farWord(5, 0), listWord(0, api.OfBytes, 17)}, {}, {1, 2, 3}}
	touched(t, a, path(-1), 0, 1, 3, 5)
	touched(t, a, path(7), 0, 1, 3, 6)
	touched(t, a, path(8), 0, 1, 3, 5, 6, 7)
	touched(t, a, path(16), 0, 1, 3, 5, 7, 8)
	untouched(t, a, path(17), api.ErrBounds)
	// The last word of the last segment that there may be.
	a = append(api.Arena{{farWord(15, 0)}}, make(api.Arena, 15)...)
	a[15] = append([]uint64{listWord(0, api.OfWords, 4094)}, upTo(4094)...)
	touched(t, a, path(4093), 0, 2, 4095, 4096)
}

func TestTouchedOfWordsThatAreReadTwice(t *testing.T) {
	// The root lands on the word 2, which is a pointer of the struct that it leads to as well.
	a := api.Arena{{farWord(0, 2), 7, structWord(-2, 1, 1)}}
	touched(t, a, path(-1), 0, 1, 2, 3)
	touched(t, a, path(0), 0, 3)
	touched(t, a, path(-1, 0), 0, 1, 2, 3)
	touched(t, a, path(0, 0, 0, 0), 0, 3)
	// A pointer that is told as a word.
	touched(t, api.Arena{{structWord(-1, 1, 0)}}, path(0), 0, 1)
	// Things that are led to again and again, by the same words.
	touched(t, around(0), path(0, 0, 0, 0), 0, 3)
	touched(t, around(0), path(-1, 0, 0, 1), 0, 1, 2, 4)
}

func TestTouchedOfLongPaths(t *testing.T) {
	for n := range 33 {
		touched(t, api.Arena{{structWord(-1, 0, 1)}}, path(-1, make([]int, n)...), 0, 1)
		touched(t, api.Arena{chain(32, 0)}, path(0, make([]int, n)...), 0, n+1)
	}
	for _, n := range []int{33, 34, 100} {
		untouched(t, api.Arena{{structWord(-1, 0, 1)}}, path(-1, make([]int, n)...), api.ErrLong)
		untouched(t, api.Arena{{0}}, path(0, make([]int, n)...), api.ErrLong)
	}
	for _, k := range []int{-1, math.MinInt} {
		untouched(t, shelf(), path(-1, k), api.ErrArg)
		untouched(t, shelf(), path(0, 2, k, 0), api.ErrArg)
		// Ahead of all other errors.
		untouched(t, api.Arena{{capability}}, path(-1, 0, k), api.ErrArg)
		untouched(t, shelf(), tooLong(k), api.ErrArg)
	}
	// Of what is no arena it is the one error that there is.
	untouched(t, nil, path(-1, make([]int, 33)...), api.ErrArg)
}

// tooLong is a path of 32 steps, and one more.
func tooLong(k int) api.Path {
	return api.Path{Steps: append(make([]int, 32), k)}
}

// TestTouchedAtWhatItCosts has a list that leads to itself.
func TestTouchedAtWhatItCosts(t *testing.T) {
	for _, c := range []struct {
		count, steps int
		want         api.Errno
	}{
		// 1 and the list's words, for the root and for each step: 8192, and beyond.
		{255, 31, api.OK}, {255, 32, api.ErrCost}, {256, 30, api.OK}, {256, 31, api.ErrCost}, {4095, 1, api.OK}, {4095, 2, api.ErrCost}, {4096, 0, api.OK}, {4096, 1, api.ErrCost},
		{247, 32, api.OK}, {248, 32, api.ErrCost}, {2729, 2, api.OK}, {2730, 2, api.ErrCost}, // 8193
	} {
		a := api.Arena{append([]uint64{listWord(-1, api.OfPtrs, c.count)}, make([]uint64, c.count-1)...)}
		if c.want == api.OK {
			touched(t, a, path(-1, make([]int, c.steps)...), 0, 1)
		} else {
			untouched(t, a, path(-1, make([]int, c.steps)...), c.want)
		}
	}
	// What the whole tree would cost is not asked.
	touched(t, costing(2), path(2727, 2), 0, 1, 5, 6, 2733, 2734)
}

// TestTouchedOfWhatMayNotBeSent has errors beside the way, and on it.
func TestTouchedOfWhatMayNotBeSent(t *testing.T) {
	a := api.Arena{{structWord(0, 1, 5), 7, capability, structWord(9, 1, 0), farWord(1, 0), doubleWord(0, 9), listWord(0, 7, 1)}}
	touched(t, a, path(0), 0, 2)
	touched(t, a, path(0, 5), 0, 1)
	for k, want := range []api.Errno{api.ErrKind, api.ErrBounds, api.ErrBounds, api.ErrBounds, api.ErrKind} {
		untouched(t, a, path(-1, k), want)
		untouched(t, a, path(0, k, 0, 1), want)
	}
	untouched(t, api.Arena{{capability}}, path(-1), api.ErrKind)
	untouched(t, api.Arena{{farWord(0, 0)}}, path(-1), api.ErrKind)
}

// A part is a source that has words at some places alone.
type part struct {
	read.Source
	there []api.Span
}

func (p part) Word(seg, at int) (uint64, api.Errno) {
	place := at
	for _, size := range p.Sizes()[:seg] {
		place += size
	}
	if !span.Has(p.there, api.Span{From: place, To: place + 1}) {
		return 0, api.ErrNotYet
	}
	return p.Source.Word(seg, at)
}

// justEnough looks whether a path is read by the words that it touches, by no fewer of them, and whatever the others are.
func justEnough(t *testing.T, a api.Arena, p api.Path) api.Errno {
	t.Helper()
	want, wantErr := read.Of(a, p, api.MaxCost)
	l, err := Touched(a, p)
	if err != wantErr || err != api.OK && l != nil {
		t.Fatalf("Touched of %x, %v = %v, %d, want %d", a, p, l, err, wantErr)
	}
	if err != api.OK {
		return err
	}
	if !span.Right(l) {
		t.Fatalf("Touched of %x, %v = %v, which is not Right", a, p, l)
	}
	whole := read.Whole(a)
	if v, err := read.Walk(part{whole, l}, p, api.MaxCost); v != want || err != api.OK {
		t.Fatalf("Walk of %x, %v, by %v alone = %+v, %d, want %+v", a, p, l, v, err, want)
	}
	for _, s := range l {
		for place := s.From; place < s.To; place++ {
			fewer := slices.Concat(span.Holes([]api.Span{{From: place, To: place + 1}}, s), slices.DeleteFunc(slices.Clone(l), func(o api.Span) bool { return o == s }))
			if _, err := read.Walk(part{whole, fewer}, p, api.MaxCost); err != api.ErrNotYet {
				t.Fatalf("Touched of %x, %v = %v, but %d is not read", a, p, l, place)
			}
		}
	}
	bent := bentBeside(a, l)
	if v, err := read.Of(bent, p, api.MaxCost); v != want || err != api.OK {
		t.Fatalf("Of %x, of which all but %v is bent, %v = %+v, %d, want %+v", a, l, p, v, err, want)
	}
	if again, err := Touched(bent, p); !slices.Equal(again, l) || err != api.OK {
		t.Fatalf("Touched of %x, of which all but %v is bent, %v = %v, %d", a, l, p, again, err)
	}
	return api.OK
}

// bentBeside is an arena of which each word is another one, but those at some places.
func bentBeside(a api.Arena, l []api.Span) api.Arena {
	bent, place := copied(a), 0
	for _, words := range bent {
		for at := range words {
			if !span.Has(l, api.Span{From: place, To: place + 1}) {
				words[at] ^= 0xa5c31b779d02e64f
			}
			place++
		}
	}
	return bent
}

// TestEachPathOfWhatWasBuilt goes over all paths of small trees, and some of great ones.
func TestEachPathOfWhatWasBuilt(t *testing.T) {
	for _, tr := range everyTree() {
		paths := tree.Paths(tr, 10000)
		every := 1 + len(paths)/100
		for i, a := range builds(tr) {
			for k := i % every; k < len(paths); k += every {
				if err := justEnough(t, a, paths[k]); err != api.OK {
					t.Fatalf("Touched of %x, %v: %d", a, paths[k], err)
				}
			}
		}
	}
}

func TestDrawnPathsOfDrawnArenas(t *testing.T) {
	many := map[api.Errno]int{}
	r := rand.New(rand.NewPCG(11, 3))
	for range 30000 {
		p := path(r.IntN(6) - 2)
		for range r.IntN(5) {
			p.Steps = append(p.Steps, r.IntN(4))
		}
		many[justEnough(t, drawnArena(r), p)]++
	}
	for _, end := range []api.Errno{api.OK, api.ErrBounds, api.ErrKind} {
		if many[end] < 1000 {
			t.Errorf("error %d: only %d times", end, many[end])
		}
	}
}

// TestTouchedOfBentWords has one bit of one word that is another one: on the way, or beside it.
func TestTouchedOfBentWords(t *testing.T) {
	paths := tree.Paths(sample(), 10000)
	for i, size := range []int{9, api.MaxWords} {
		a := built(t, sample(), size)
		for seg, words := range a {
			for at := range words {
				for bit := range 64 {
					bent := copied(a)
					bent[seg][at] ^= 1 << bit
					justEnough(t, bent, paths[(seg+at+bit+i)%len(paths)])
				}
			}
		}
	}
}
