package read

import (
	"math"
	"slices"
	"testing"

	"sculler/api"
	"sculler/build"
)

// most is a cost that any walk may have.
const most = math.MaxInt

func TestExample(t *testing.T) {
	a, _ := build.Build(api.Node{Kind: api.Struct, Words: []uint64{7}}, 9)
	walked(t, a, path(0), 9, api.Value{Kind: api.Struct, Word: 7}, api.OK)
}

func TestWalkToNull(t *testing.T) {
	for _, at := range ends() {
		walked(t, api.Arena{{0}}, path(at), most, api.Value{}, api.OK)
		walked(t, api.Arena{{0}}, path(at, 0, 7, math.MaxInt, 3), most, api.Value{}, api.OK)
		walked(t, api.Arena{{structWord(0, 0, 1), 0}}, path(at, 0), most, api.Value{}, api.OK)
		walked(t, api.Arena{{structWord(-1, 0, 0)}}, path(at, 0), most, api.Value{}, api.OK)
	}
}

func TestWalkToAStruct(t *testing.T) {
	a := api.Arena{{structWord(0, 3, 2), 7, 8, math.MaxUint64, structWord(1, 1, 0), 0, 9}}
	is := api.Value{Kind: api.Struct, Words: 3, Kids: 2}
	for _, at := range []int{-1, -2, math.MinInt} {
		walked(t, a, path(at), most, is, api.OK)
		walked(t, a, path(at, 0), most, api.Value{Kind: api.Struct, Words: 1}, api.OK)
		walked(t, api.Arena{{structWord(-1, 0, 0)}}, path(at), most, api.Value{Kind: api.Struct}, api.OK)
		walked(t, api.Arena{{structWord(0, 0, 1), 0}}, path(at), most, api.Value{Kind: api.Struct, Kids: 1}, api.OK)
	}
	for at, word := range []uint64{7, 8, math.MaxUint64, 0, 0, 0, 0} { // behind Data noughts, whatever lies there
		walked(t, a, path(at), most, api.Value{Kind: api.Struct, Word: word}, api.OK)
	}
	walked(t, a, path(math.MaxInt), most, api.Value{Kind: api.Struct}, api.OK)
	walked(t, a, path(0, 0), most, api.Value{Kind: api.Struct, Word: 9}, api.OK)
	walked(t, a, path(1, 0), most, api.Value{Kind: api.Struct}, api.OK)
	walked(t, api.Arena{{structWord(-1, 0, 0)}}, path(0), most, api.Value{Kind: api.Struct}, api.OK)
	walked(t, api.Arena{{structWord(0, 0, 1), 0}}, path(0), most, api.Value{Kind: api.Struct}, api.OK)
}

func TestWalkToAListOfWords(t *testing.T) {
	a := api.Arena{{listWord(1, api.OfWords, 3), 1, 7, 8, math.MaxUint64, 9}}
	for _, at := range []int{-1, -2, math.MinInt} {
		walked(t, a, path(at), most, api.Value{Kind: api.List, Size: api.OfWords, Words: 3}, api.OK)
		walked(t, api.Arena{{listWord(0, api.OfWords, 0)}}, path(at), most, api.Value{Kind: api.List, Size: api.OfWords}, api.OK)
	}
	for at, word := range []uint64{7, 8, math.MaxUint64} {
		walked(t, a, path(at), most, api.Value{Kind: api.List, Word: word}, api.OK)
	}
	for _, at := range []int{3, 4, 5, 1 << 32, math.MaxInt} {
		walked(t, a, path(at), most, api.Value{}, api.ErrBounds)
	}
	walked(t, api.Arena{{listWord(0, api.OfWords, 0), 7}}, path(0), most, api.Value{}, api.ErrBounds)
}

func TestWalkToAListOfBytes(t *testing.T) {
	words := []uint64{0xf7e6d5c4b3a29180, 0x8070605040302010, 0xfefdfcfbfaf9f8ff}
	bytes := []uint64{0x80, 0x91, 0xa2, 0xb3, 0xc4, 0xd5, 0xe6, 0xf7, 0x10, 0x20, 0x30, 0x40, 0x50, 0x60, 0x70, 0x80, 0xff, 0xf8, 0xf9, 0xfa, 0xfb, 0xfc, 0xfd, 0xfe}
	for count := range len(bytes) + 1 {
		a := api.Arena{append([]uint64{listWord(1, api.OfBytes, count), math.MaxUint64}, words...)}
		walked(t, a, path(-1), most, api.Value{Kind: api.List, Size: api.OfBytes, Words: count}, api.OK)
		walked(t, a, path(math.MinInt), most, api.Value{Kind: api.List, Size: api.OfBytes, Words: count}, api.OK)
		for at, b := range bytes {
			if at < count {
				walked(t, a, path(at), most, api.Value{Kind: api.List, Word: b}, api.OK)
			} else {
				walked(t, a, path(at), most, api.Value{}, api.ErrBounds)
			}
		}
		walked(t, a, path(len(bytes)), most, api.Value{}, api.ErrBounds)
		walked(t, a, path(math.MaxInt), most, api.Value{}, api.ErrBounds)
	}
}

func TestWalkToAListOfPointers(t *testing.T) {
	a := api.Arena{{listWord(0, api.OfPtrs, 2), 0, listWord(0, api.OfWords, 1), 7}}
	for _, at := range []int{-1, -2, math.MinInt} {
		walked(t, a, path(at), most, api.Value{Kind: api.List, Size: api.OfPtrs, Kids: 2}, api.OK)
		walked(t, api.Arena{{listWord(0, api.OfPtrs, 0)}}, path(at), most, api.Value{Kind: api.List, Size: api.OfPtrs}, api.OK)
	}
	for _, at := range []int{0, 1, 2, 3, math.MaxInt} {
		walked(t, a, path(at), most, api.Value{}, api.ErrKind)
		walked(t, api.Arena{{listWord(0, api.OfPtrs, 0)}}, path(at), most, api.Value{}, api.ErrKind)
	}
}

// TestWalkBySteps has steps of each kind, to the first one, to the last one, and to one beyond.
func TestWalkBySteps(t *testing.T) {
	s := api.Arena{{structWord(0, 1, 2), 5, structWord(1, 1, 0), listWord(1, api.OfWords, 2), 6, 7, 8}}
	walked(t, s, path(0, 0), most, api.Value{Kind: api.Struct, Word: 6}, api.OK)
	walked(t, s, path(0, 1), most, api.Value{Kind: api.List, Word: 7}, api.OK)
	walked(t, s, path(1, 1), most, api.Value{Kind: api.List, Word: 8}, api.OK)
	for _, k := range []int{2, 3, 4, math.MaxInt - 2, math.MaxInt} {
		walked(t, s, path(0, k), most, api.Value{}, api.OK)
		walked(t, s, path(-1, k, k, 0), most, api.Value{}, api.OK)
		walked(t, s, path(0, 0, k), most, api.Value{}, api.OK)
	}
	l := api.Arena{{listWord(0, api.OfPtrs, 2), structWord(1, 1, 0), listWord(1, api.OfBytes, 2), 6, 0x0807}}
	walked(t, l, path(0, 0), most, api.Value{Kind: api.Struct, Word: 6}, api.OK)
	walked(t, l, path(1, 1), most, api.Value{Kind: api.List, Word: 8}, api.OK)
	for _, k := range []int{2, 3, 4, math.MaxInt - 2, math.MaxInt} {
		walked(t, l, path(-1, k), most, api.Value{}, api.ErrBounds)
		walked(t, l, path(-1, k, 0), most, api.Value{}, api.ErrBounds)
	}
	walked(t, api.Arena{{listWord(0, api.OfPtrs, 0), 0}}, path(-1, 0), most, api.Value{}, api.ErrBounds)
	for _, size := range []int{api.OfBytes, api.OfWords} {
		for _, k := range []int{0, 1, 8, math.MaxInt} {
			walked(t, api.Arena{{listWord(0, size, 1), 0}}, path(-1, k), most, api.Value{}, api.ErrKind)
			walked(t, api.Arena{{listWord(0, size, 0), 0}}, path(-1, k), most, api.Value{}, api.ErrKind)
			walked(t, api.Arena{{structWord(0, 0, 1), listWord(0, size, 0), 0}}, path(-1, 0, k), most, api.Value{}, api.ErrKind)
		}
	}
	walked(t, l, path(-1, 1, 0), most, api.Value{}, api.ErrKind)
}

// TestWalkByFarPointers goes over three segments there and back, with steps behind each far pointer.
func TestWalkByFarPointers(t *testing.T) {
	a := api.Arena{
		{farWord(1, 1), structWord(0, 1, 0), 9},
		{0, structWord(-2, 0, 1), structWord(0, 1, 0)},
		{farWord(0, 1), farWord(0, 1), structWord(0, 1, 0), listWord(0, api.OfPtrs, 2), farWord(0, 1), 0},
	}
	a[1][0] = doubleWord(2, 1)
	a[2][1] = farWord(2, 0)
	walked(t, a, path(0, 0), most, api.Value{Kind: api.Struct, Word: farWord(0, 1)}, api.OK)
	a[1][0] = farWord(2, 3)
	walked(t, a, path(-1, 0), most, api.Value{Kind: api.List, Size: api.OfPtrs, Kids: 2}, api.OK)
	walked(t, a, path(0, 0, 0), most, api.Value{Kind: api.Struct, Word: 9}, api.OK)
	walked(t, a, path(0, 0, 1), most, api.Value{}, api.OK)
	walked(t, a, path(0, 0, 2), most, api.Value{}, api.ErrBounds)
}

// chain is n structs, each the next one's only Kid, the last one with a word.
func chain(n int) api.Arena {
	var words []uint64
	for range n - 1 {
		words = append(words, structWord(0, 0, 1))
	}
	return api.Arena{append(words, structWord(0, 1, 0), 7)}
}

func TestWalkByManySteps(t *testing.T) {
	for n := range 40 {
		p := path(0, make([]int, n)...)
		if n <= 32 {
			walked(t, chain(n+1), p, most, api.Value{Kind: api.Struct, Word: 7}, api.OK)
			walked(t, api.Arena{{0}}, p, most, api.Value{}, api.OK)
		} else {
			walked(t, chain(n+1), p, most, api.Value{}, api.ErrLong)
			walked(t, api.Arena{{0}}, p, most, api.Value{}, api.ErrLong)
		}
	}
	walked(t, api.Arena{{0}}, path(0, make([]int, 100000)...), most, api.Value{}, api.ErrLong)
}

// TestWalkByAStepBelow0 has it at each place, ahead of all else that is wrong.
func TestWalkByAStepBelow0(t *testing.T) {
	for _, n := range []int{1, 2, 31, 32, 33, 1000} {
		for i := range n {
			for _, k := range []int{-1, -2, math.MinInt} {
				p := path(0, slices.Repeat([]int{5}, n)...)
				p.Steps[i] = k
				walked(t, chain(3), p, most, api.Value{}, api.ErrArg)
				walked(t, api.Arena{{0}}, p, 0, api.Value{}, api.ErrArg)
				walked(t, api.Arena{{capability}}, p, most, api.Value{}, api.ErrArg)
			}
		}
	}
}

// costs looks at which cost on a path may be walked.
func costs(t *testing.T, a api.Arena, p api.Path, want int) {
	t.Helper()
	v, err := Walk(Whole(a), p, most)
	if err != api.OK {
		t.Fatalf("Walk of %x, %v = %d", a, p, err)
	}
	walked(t, a, p, want, v, api.OK)
	walked(t, a, p, want+1, v, api.OK)
	for _, cost := range []int{want - 1, want / 2, 1, 0, -1, -want, math.MinInt, math.MinInt + 1} {
		if cost < want {
			walked(t, a, p, cost, api.Value{}, api.ErrCost)
		}
	}
}

func TestWalkByCosts(t *testing.T) {
	costs(t, api.Arena{{0}}, path(0), 1)
	costs(t, api.Arena{{0}}, path(0, 3), 2)
	costs(t, api.Arena{{0}}, path(0, make([]int, 32)...), 33)
	costs(t, api.Arena{{structWord(-1, 0, 0)}}, path(0), 1)
	costs(t, api.Arena{{structWord(0, 1, 0), 7}}, path(0), 2)
	costs(t, api.Arena{{structWord(0, 0, 1), 0}}, path(-1), 2)
	costs(t, api.Arena{behind(100, structWord(0, 40, 60))}, path(5), 101)
	costs(t, api.Arena{behind(4095, listWord(0, api.OfWords, 4095))}, path(0), 4096)
	costs(t, api.Arena{behind(4095, listWord(0, api.OfBytes, 8*4095))}, path(0), 4096)
	costs(t, api.Arena{behind(4095, listWord(0, api.OfPtrs, 4095))}, path(-1), 4096)
	for bytes, words := range map[int]int{0: 0, 1: 1, 7: 1, 8: 1, 9: 2, 16: 2, 17: 3} {
		costs(t, api.Arena{behind(9, listWord(0, api.OfBytes, bytes))}, path(-1), 1+words)
	}
	// A landing place costs nothing.
	costs(t, api.Arena{{farWord(1, 0)}, {structWord(0, 1, 0), 7}}, path(0), 2)
	costs(t, api.Arena{{doubleWord(1, 0)}, {farWord(0, 0), structWord(0, 1, 0)}}, path(0), 2)
	// Each thing on the way counts, and Null too.
	a := api.Arena{{structWord(0, 1, 2), 5, structWord(1, 1, 1), listWord(2, api.OfPtrs, 3), 6, 0, 0, structWord(1, 1, 0), 0, 9}}
	costs(t, a, path(0), 4)
	costs(t, a, path(0, 0), 4+3)
	costs(t, a, path(0, 0, 0), 4+3+1)
	costs(t, a, path(0, 0, 1), 4+3+1)
	costs(t, a, path(0, 0, 0, 0), 4+3+1+1)
	costs(t, a, path(0, 2), 4+1)
	costs(t, a, path(0, 2, 2), 4+1+1)
	costs(t, a, path(-1, 1), 4+4)
	costs(t, a, path(0, 1, 0), 4+4+1)
	costs(t, a, path(0, 1, 1), 4+4+2)
	costs(t, chain(33), path(0, make([]int, 32)...), 66)
}

// TestWalkOverTheSameThings pays for them again and again.
func TestWalkOverTheSameThings(t *testing.T) {
	loop := api.Arena{{structWord(0, 2, 2), 7, 8, structWord(-3, 2, 2), listWord(0, api.OfPtrs, 1), structWord(-5, 2, 2)}}
	root := api.Arena{{structWord(-1, 0, 1)}} // its own Kid
	far := api.Arena{{farWord(1, 0)}, {listWord(0, api.OfPtrs, 2), farWord(1, 0), farWord(1, 0)}}
	for n := range 33 {
		costs(t, loop, path(1, make([]int, n)...), 5*(n+1))
		costs(t, root, path(-1, make([]int, n)...), 2*(n+1))
		costs(t, far, path(-1, slices.Repeat([]int{n % 2}, n)...), 3*(n+1))
	}
	costs(t, loop, path(-1, 1, 0, 1, 0, 0, 1), 5+2+5+2+5+5+2)
}

// TestWalkTellsWhatComesFirst has more than one thing that is wrong.
func TestWalkTellsWhatComesFirst(t *testing.T) {
	long := make([]int, 33)
	for _, c := range []struct {
		what string
		s    Source
		p    api.Path
		cost int
		want api.Errno
	}{
		{"a step below 0, of too many", nil, path(0, append(make([]int, 40), -1)...), 0, api.ErrArg},
		{"a step below 0, no source", nil, path(0, -1), 0, api.ErrArg},
		{"too many steps, no source", nil, path(0, long...), 0, api.ErrLong},
		{"too many steps, no cost", Whole(api.Arena{{0}}), path(0, long...), 0, api.ErrLong},
		{"no source, no cost", nil, path(0), 0, api.ErrBounds},
		{"no root, no cost", Whole(nil), path(0), 0, api.ErrBounds},
		{"a root of no kind, no cost", Whole(api.Arena{{capability}}), path(0), -1, api.ErrKind},
		{"a root out of bounds, no cost", Whole(api.Arena{{structWord(0, 1, 0)}}), path(0), 0, api.ErrBounds},
		{"no cost, a step from what has none", Whole(api.Arena{{listWord(0, api.OfWords, 1), 0}}), path(0, 0), 1, api.ErrCost},
		{"no cost, a step beyond", Whole(api.Arena{{listWord(0, api.OfPtrs, 1), 0}}), path(0, 1), 1, api.ErrCost},
		{"a step beyond, which nothing pays for", Whole(api.Arena{{listWord(0, api.OfPtrs, 1), 0}}), path(0, 1), 2, api.ErrBounds},
		{"a step from what has none, which nothing pays for", Whole(api.Arena{{listWord(0, api.OfWords, 1), 0}}), path(0, 0), 2, api.ErrKind},
		{"no cost, a word beyond", Whole(api.Arena{{listWord(0, api.OfWords, 1), 0}}), path(1), 1, api.ErrCost},
		{"no cost, a word of pointers", Whole(api.Arena{{listWord(0, api.OfPtrs, 1), 0}}), path(0), 1, api.ErrCost},
		{"a Kid of no kind, no cost", Whole(api.Arena{{structWord(0, 0, 1), capability}}), path(0, 0), 2, api.ErrKind},
		{"a Kid out of bounds, no cost", Whole(api.Arena{{structWord(0, 0, 1), structWord(0, 1, 0)}}), path(0, 0), 2, api.ErrBounds},
		{"a Kid that is there, no cost", Whole(api.Arena{{structWord(0, 0, 1), structWord(-1, 1, 0)}}), path(0, 0), 3, api.ErrCost},
		{"a Kid of no kind, a step beyond it", Whole(api.Arena{{listWord(0, api.OfPtrs, 1), capability}}), path(0, 0, 9), most, api.ErrKind},
		{"a Null beyond, no cost", Whole(api.Arena{{structWord(0, 0, 1), 0}}), path(0, 1), 2, api.ErrCost},
	} {
		if v, err := Walk(c.s, c.p, c.cost); v != (api.Value{}) || err != c.want {
			t.Errorf("%s: Walk = %+v, %d, want %d", c.what, v, err, c.want)
		}
	}
}

func TestOfWhatIsNotRight(t *testing.T) {
	great := api.Arena{append([]uint64{0}, ones(4096)...)}
	for i, a := range []api.Arena{nil, {}, {nil}, {{}}, {{}, {0}}, make(api.Arena, 17), append(api.Arena{{0}}, make(api.Arena, 16)...), great, {{0}, ones(4096)}} {
		for _, p := range []api.Path{{}, path(-1), path(0, 1), path(0, -1), path(0, make([]int, 33)...)} {
			for _, cost := range []int{most, 9, 0, -1} {
				if v, err := Of(a, p, cost); v != (api.Value{}) || err != api.ErrArg {
					t.Errorf("Of arena %d, %v, cost %d = %+v, %d, want ErrArg", i, p, cost, v, err)
				}
			}
		}
	}
	for i, a := range []api.Arena{{{0}}, append(api.Arena{{0}}, make(api.Arena, 15)...), {append([]uint64{0}, ones(4095)...)}, {{0}, ones(4095)}} {
		if v, err := Of(a, path(-1), 1); v != (api.Value{}) || err != api.OK {
			t.Errorf("Of Right arena %d = %+v, %d", i, v, err)
		}
	}
	// Its Whole is walked over all the same.
	for _, a := range []api.Arena{great, append(api.Arena{{0}}, make(api.Arena, 16)...)} {
		if v, err := Walk(Whole(a), path(-1), 1); v != (api.Value{}) || err != api.OK {
			t.Errorf("Walk = %+v, %d", v, err)
		}
	}
}

func TestWalkOfNoSource(t *testing.T) {
	for _, s := range []Source{nil, (*mine)(nil), (*whole)(nil), (*broken)(nil), Whole(nil), told{word: structWord(0, 1, 0)}} {
		for _, p := range []api.Path{{}, path(-1), path(0, 1, 2)} {
			if v, err := Walk(s, p, most); v != (api.Value{}) || err != api.ErrBounds {
				t.Errorf("Walk of %T = %+v, %d, want ErrBounds", s, v, err)
			}
		}
	}
}

// TestWalkOfHugeSources has sources of more words than any memory.
func TestWalkOfHugeSources(t *testing.T) {
	s := told{word: structWord(-1, math.MaxUint16, math.MaxUint16), sizes: []int{math.MaxInt}}
	one := 1 + 2*math.MaxUint16
	for _, c := range []struct {
		p    api.Path
		cost int
		want api.Value
		err  api.Errno
	}{
		{path(-1), one, api.Value{Kind: api.Struct, Words: math.MaxUint16, Kids: math.MaxUint16}, api.OK},
		{path(-1), one - 1, api.Value{}, api.ErrCost},
		{path(math.MaxUint16-1, 0, math.MaxUint16-1), 3 * one, api.Value{Kind: api.Struct, Word: s.word}, api.OK},
		{path(math.MaxUint16, 0, math.MaxUint16), 2*one + 1, api.Value{}, api.OK},
		{path(0, make([]int, 32)...), 33 * one, api.Value{Kind: api.Struct, Word: s.word}, api.OK},
		{path(0, make([]int, 32)...), 33*one - 1, api.Value{}, api.ErrCost},
	} {
		if v, err := Walk(s, c.p, c.cost); v != c.want || err != c.err {
			t.Errorf("Walk of %v, cost %d = %+v, %d, want %+v, %d", c.p, c.cost, v, err, c.want, c.err)
		}
	}
	// 2^29 - 1 pointers, each of them to that list again.
	s.word = listWord(-1, api.OfPtrs, 1<<29-1)
	p := path(-1, slices.Repeat([]int{1<<29 - 2}, 32)...)
	if v, err := Walk(s, p, 33<<29); v != (api.Value{Kind: api.List, Size: api.OfPtrs, Kids: 1<<29 - 1}) || err != api.OK {
		t.Errorf("Walk of a great list = %+v, %d", v, err)
	}
	if v, err := Walk(s, p, 33<<29-1); v != (api.Value{}) || err != api.ErrCost {
		t.Errorf("Walk of a great list, by one too little = %+v, %d", v, err)
	}
}

// A way is a path, what it leads to, and the words that are read on it.
type way struct {
	p    api.Path
	want api.Value
	read []place
}

// ways are some over one arena.
func ways() (api.Arena, []way) {
	a := api.Arena{
		{structWord(0, 2, 3), 7, 8, farWord(1, 2), doubleWord(1, 0), listWord(0, api.OfBytes, 20), 0x0706050403020100, 0x0f0e0d0c0b0a0908, 0x13121110},
		{farWord(2, 0), listWord(0, api.OfWords, 3), listWord(0, api.OfPtrs, 2), 0, farWord(2, 3)},
		{21, 22, 23, structWord(-4, 3, 0)},
	}
	return a, []way{
		{path(-1), api.Value{Kind: api.Struct, Words: 2, Kids: 3}, []place{{0, 0}}},
		{path(0), api.Value{Kind: api.Struct, Word: 7}, []place{{0, 0}, {0, 1}}},
		{path(1), api.Value{Kind: api.Struct, Word: 8}, []place{{0, 0}, {0, 2}}},
		{path(2), api.Value{Kind: api.Struct}, []place{{0, 0}}},
		{path(0, 3), api.Value{}, []place{{0, 0}}},
		{path(0, 3, 1, 1), api.Value{}, []place{{0, 0}}},
		{path(-1, 0), api.Value{Kind: api.List, Size: api.OfPtrs, Kids: 2}, []place{{0, 0}, {0, 3}, {1, 2}}},
		{path(0, 0, 0), api.Value{}, []place{{0, 0}, {0, 3}, {1, 2}, {1, 3}}},
		{path(-1, 0, 1), api.Value{Kind: api.Struct, Words: 3}, []place{{0, 0}, {0, 3}, {1, 2}, {1, 4}, {2, 3}}},
		{path(1, 0, 1), api.Value{Kind: api.Struct, Word: 22}, []place{{0, 0}, {0, 3}, {1, 2}, {1, 4}, {2, 3}, {2, 1}}},
		{path(-1, 1), api.Value{Kind: api.List, Size: api.OfWords, Words: 3}, []place{{0, 0}, {0, 4}, {1, 0}, {1, 1}}},
		{path(2, 1), api.Value{Kind: api.List, Word: 23}, []place{{0, 0}, {0, 4}, {1, 0}, {1, 1}, {2, 2}}},
		{path(-1, 2), api.Value{Kind: api.List, Size: api.OfBytes, Words: 20}, []place{{0, 0}, {0, 5}}},
		{path(7, 2), api.Value{Kind: api.List, Word: 7}, []place{{0, 0}, {0, 5}, {0, 6}}},
		{path(8, 2), api.Value{Kind: api.List, Word: 8}, []place{{0, 0}, {0, 5}, {0, 7}}},
		{path(19, 2), api.Value{Kind: api.List, Word: 19}, []place{{0, 0}, {0, 5}, {0, 8}}},
	}
}

// TestWalkReadsWhatIsOnItsWayAlone has a source of one's own, and an error of it, or a panic, at each of the words that are read.
func TestWalkReadsWhatIsOnItsWayAlone(t *testing.T) {
	a, l := ways()
	for _, c := range l {
		s := &mine{a: a}
		if v, err := Walk(s, c.p, most); v != c.want || err != api.OK || !slices.Equal(s.read, c.read) {
			t.Errorf("Walk of %v = %+v, %d, by %v, want %+v, by %v", c.p, v, err, s.read, c.want, c.read)
		}
		for n := range c.read {
			for _, fails := range []api.Errno{api.ErrNotYet, api.ErrArg, api.ErrCost, 999, math.MaxUint16} {
				s := &mine{a: a, fails: n + 1, err: fails}
				if v, err := Walk(s, c.p, most); v != (api.Value{}) || err != fails || len(s.read) != n+1 {
					t.Errorf("Walk of %v, error %d at the word %d = %+v, %d, by %v", c.p, fails, n, v, err, s.read)
				}
			}
			if v, err := Walk(&broken{mine: mine{a: a, fails: n + 1}}, c.p, most); v != (api.Value{}) || err != api.ErrBounds {
				t.Errorf("Walk of %v, a panic at the word %d = %+v, %d, want ErrBounds", c.p, n, v, err)
			}
		}
		if v, err := Walk(&broken{mine: mine{a: a}, sizeless: true}, c.p, most); v != (api.Value{}) || err != api.ErrBounds {
			t.Errorf("Walk of %v, a panic at the sizes = %+v, %d, want ErrBounds", c.p, v, err)
		}
	}
}

// TestWhatIsHandedInStays looks at arenas, paths, and the sizes that a source tells.
func TestWhatIsHandedInStays(t *testing.T) {
	a, l := ways()
	sizes := []int{9, 5, 4}
	before := text(a)
	for _, c := range l {
		steps := append(slices.Clone(c.p.Steps), 1, 2, 3)
		p := api.Path{Steps: steps[:len(c.p.Steps)], At: c.p.At}
		own := text(steps)
		walked(t, a, p, most, c.want, api.OK)
		Walk(told{word: a[0][0], sizes: sizes}, p, most)
		Walk(nil, p, most)
		Of(nil, p, most)
		if text(steps) != own {
			t.Errorf("the steps %v are %v now", c.p.Steps, steps)
		}
	}
	if text(a) != before || !slices.Equal(sizes, []int{9, 5, 4}) {
		t.Error("an arena, or its sizes, are others now")
	}
}

// TestOfLooksAtNothingBehindALength has a thing that begins in a segment, and would end behind its length.
func TestOfLooksAtNothingBehindALength(t *testing.T) {
	words := []uint64{structWord(0, 1, 1), 7, structWord(0, 1, 0), 8}
	walked(t, api.Arena{words[:2]}, path(0), most, api.Value{}, api.ErrBounds)
	walked(t, api.Arena{words[:3]}, path(0), most, api.Value{Kind: api.Struct, Word: 7}, api.OK)
	walked(t, api.Arena{words[:3]}, path(0, 0), most, api.Value{}, api.ErrBounds)
	walked(t, api.Arena{words}, path(0, 0), most, api.Value{Kind: api.Struct, Word: 8}, api.OK)
	steps := []int{0, 0}
	walked(t, api.Arena{words}, api.Path{Steps: steps[:1]}, most, api.Value{Kind: api.Struct, Word: 8}, api.OK)
	walked(t, api.Arena{words}, api.Path{Steps: steps[:0]}, most, api.Value{Kind: api.Struct, Word: 7}, api.OK)
}
