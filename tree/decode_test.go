package tree

import (
	"slices"
	"testing"

	"sculler/api"
	"sculler/build"
)

// decoded looks whether an arena has a tree, and which one; refused whether it has none, and why.
func decoded(t *testing.T, a api.Arena, want api.Node) {
	t.Helper()
	if got, err := Decode(a); text(got) != text(want) || !build.Same(got, want) || err != api.OK {
		t.Errorf("Decode of %x = %v, %d, want %v", a, got, err, want)
	}
}

func refused(t *testing.T, a api.Arena, want api.Errno) {
	t.Helper()
	got, err := Decode(a)
	if text(got) != text(api.Node{}) || err != want {
		t.Errorf("Decode of an arena of %d segments, %.200s .. = Kind %d, Size %d, %d words, %d bytes, %d Kids, %d, want noughts and %d",
			len(a), text(a), got.Kind, got.Size, len(got.Words), len(got.Bytes), len(got.Kids), err, want)
	}
}

func TestDecodeOfEachKind(t *testing.T) {
	decoded(t, api.Arena{{0}}, api.Node{})
	decoded(t, api.Arena{{0, 5, 6}, {7}}, api.Node{})
	decoded(t, api.Arena{{structWord(-1, 0, 0)}}, record(0))
	decoded(t, api.Arena{{structWord(0, 0, 0)<<1 | 4, 9}}, record(0)) // Off 1
	decoded(t, api.Arena{{structWord(0, 1, 0), 7}}, api.Node{Kind: api.Struct, Words: []uint64{7}})
	decoded(t, api.Arena{{structWord(0, 2, 0), 7, 8, 9}}, api.Node{Kind: api.Struct, Words: []uint64{7, 8}})
	decoded(t, api.Arena{{structWord(0, 0, 1), 0}}, api.Node{Kind: api.Struct, Kids: nulls(1)})
	decoded(t, api.Arena{{structWord(0, 2, 3), 7, 8, 0, structWord(1, 1, 0), structWord(-1, 0, 0), 9}},
		api.Node{Kind: api.Struct, Words: []uint64{7, 8}, Kids: []api.Node{{}, {Kind: api.Struct, Words: []uint64{9}}, {Kind: api.Struct}}})
	decoded(t, api.Arena{{listWord(0, api.OfWords, 0)}}, wordsOf(0))
	decoded(t, api.Arena{{listWord(0, api.OfBytes, 0)}}, bytesOf(0))
	decoded(t, api.Arena{{listWord(0, api.OfPtrs, 0)}}, listOf())
	decoded(t, api.Arena{{listWord(0, api.OfWords, 3), 7, 8, 9, 10}}, api.Node{Kind: api.List, Size: api.OfWords, Words: []uint64{7, 8, 9}})
	decoded(t, api.Arena{{listWord(1, api.OfWords, 1), 7, 8}}, api.Node{Kind: api.List, Size: api.OfWords, Words: []uint64{8}})
	decoded(t, api.Arena{{listWord(0, api.OfPtrs, 3), structWord(-1, 0, 0), 0, listWord(0, api.OfPtrs, 1), 0}}, listOf(record(0), api.Node{}, listOf(api.Node{})))
}

func TestDecodeOfBytes(t *testing.T) {
	words := []uint64{0x0706050403020100, 0x0f0e0d0c0b0a0908, 0x1716151413121110}
	for n := range 25 {
		want := api.Node{Kind: api.List, Size: api.OfBytes}
		for i := range n {
			want.Bytes = append(want.Bytes, byte(i))
		}
		a := api.Arena{append([]uint64{listWord(0, api.OfBytes, n)}, words...)}
		decoded(t, a, want)
		decoded(t, api.Arena{append([]uint64{structWord(0, 1, 1), 9, listWord(0, api.OfBytes, n)}, words...)}, api.Node{Kind: api.Struct, Words: []uint64{9}, Kids: []api.Node{want}})
		// What fills the last word isn't handed out.
		got, _ := Decode(a)
		for _, b := range got.Bytes[n:cap(got.Bytes)] {
			if b != 0 {
				t.Errorf("behind %d bytes there is %d", n, b)
			}
		}
	}
}

func TestDecodeByFarPointers(t *testing.T) {
	decoded(t, api.Arena{{farWord(1, 1)}, {5, structWord(0, 1, 0), 7}}, api.Node{Kind: api.Struct, Words: []uint64{7}})
	decoded(t, api.Arena{{doubleWord(1, 0)}, {farWord(2, 1), listWord(0, api.OfWords, 2)}, {5, 7, 8}}, api.Node{Kind: api.List, Size: api.OfWords, Words: []uint64{7, 8}})
	// The Kids are those of the segment in which their thing is.
	decoded(t, api.Arena{
		{farWord(2, 0), 1, 2, 3},
		{structWord(0, 1, 1), 21, doubleWord(2, 4)},
		{structWord(0, 1, 2), 31, farWord(1, 0), structWord(2, 1, 0), farWord(0, 1), listWord(0, api.OfWords, 3), 32},
	}, api.Node{Kind: api.Struct, Words: []uint64{31}, Kids: []api.Node{
		{Kind: api.Struct, Words: []uint64{21}, Kids: []api.Node{{Kind: api.List, Size: api.OfWords, Words: []uint64{1, 2, 3}}}},
		{Kind: api.Struct, Words: []uint64{32}},
	}})
}

// TestWhatWasBuiltIsDecoded has it in one segment, and in several.
func TestWhatWasBuiltIsDecoded(t *testing.T) {
	one, several := 0, 0
	draw := draws(10)
	l := trees()
	for range 500 {
		l = append(l, drawn(draw, 2+draw(8), draw(5)))
	}
	for _, tree := range l {
		for _, a := range builds(tree) {
			decoded(t, a, tree)
			if len(a) > 1 {
				several++
			} else {
				one++
			}
		}
	}
	if one < 500 || several < 500 {
		t.Errorf("only %d arenas of one segment, and %d of several", one, several)
	}
}

// TestDecodeGoesBeyondWhatIsBuilt has a struct of more words and Kids than build.Right lets through.
func TestDecodeGoesBeyondWhatIsBuilt(t *testing.T) {
	decoded(t, api.Arena{append([]uint64{structWord(0, 101, 0)}, ones(101)...)}, record(101))
	decoded(t, api.Arena{append(append([]uint64{structWord(0, 2000, 2000)}, ones(2000)...), make([]uint64, 2000)...)}, record(2000, nulls(2000)...))
	refused(t, api.Arena{{listWord(0, api.OfBytes, 8*4095)}, {}}, api.ErrBounds)
	decoded(t, api.Arena{append([]uint64{listWord(0, api.OfBytes, 8*4095)}, make([]uint64, 4095)...)}, api.Node{Kind: api.List, Size: api.OfBytes, Bytes: make([]byte, 8*4095)})
}

func TestDecodeOfWhatIsNoArena(t *testing.T) {
	great := api.Arena{make([]uint64, 4097)}
	for _, a := range []api.Arena{
		nil, {}, {nil}, {{}}, {{}, {0}}, make(api.Arena, 17), append(api.Arena{{0}}, make(api.Arena, 16)...), great, {{0}, make([]uint64, 4096)},
		{nil, {capability}}, append(api.Arena{{capability}}, make(api.Arena, 16)...), {{structWord(9, 1, 0)}, make([]uint64, 4096)},
	} {
		refused(t, a, api.ErrArg)
	}
	for _, a := range []api.Arena{{{0}}, append(api.Arena{{0}}, make(api.Arena, 15)...), {make([]uint64, 4096)}, {{0}, nil, make([]uint64, 4095)}} {
		decoded(t, a, api.Node{})
	}
}

// A bad word is one that leads nowhere, wherever it stands in the segment 0.
type bad struct {
	word uint64
	want api.Errno
}

// pad is the segment 1, in which bad words look for their landing places.
func pad() []uint64 {
	return []uint64{0, farWord(0, 0), capability, structWord(0, 1, 0), listWord(0, 4, 0), listWord(900, api.OfWords, 1), farWord(9, 0), structWord(0, 1, 0), farWord(0, 0)}
}

func bads() []bad {
	l := []bad{
		{capability, api.ErrKind}, {capability | 1<<40, api.ErrKind}, {structWord(5000, 1, 0), api.ErrBounds}, {structWord(-5000, 1, 0), api.ErrBounds},
		{structWord(0, 0xffff, 0xffff), api.ErrBounds}, {listWord(0, api.OfWords, 1<<29-1), api.ErrBounds}, {listWord(0, api.OfBytes, 1<<29-1), api.ErrBounds},
		{listWord(5000, api.OfPtrs, 0), api.ErrBounds}, {listWord(-5000, api.OfPtrs, 1), api.ErrBounds}, {structWord(5000, 0, 0) | 1<<31, api.ErrBounds},
		{farWord(2, 0), api.ErrBounds}, {farWord(1<<32-1, 0), api.ErrBounds}, {farWord(1, 9), api.ErrBounds}, {farWord(1, 1<<29-1), api.ErrBounds},
		{farWord(1, 0), api.ErrKind}, {farWord(1, 1), api.ErrKind}, {farWord(1, 2), api.ErrKind}, {farWord(1, 4), api.ErrKind}, {farWord(1, 5), api.ErrBounds},
		{doubleWord(1, 0), api.ErrKind}, {doubleWord(1, 2), api.ErrKind}, {doubleWord(1, 3), api.ErrKind}, {doubleWord(1, 4), api.ErrKind},
		{doubleWord(1, 1), api.ErrKind}, {doubleWord(1, 6), api.ErrBounds}, {doubleWord(1, 8), api.ErrBounds}, {doubleWord(2, 0), api.ErrBounds},
	}
	for size := range 8 {
		if size != api.OfBytes && size != api.OfWords && size != api.OfPtrs {
			l = append(l, bad{listWord(0, size, 0), api.ErrKind}, bad{listWord(0, size, 1), api.ErrKind})
		}
	}
	return l
}

func TestDecodeTellsTheErrorsOfFollow(t *testing.T) {
	for _, c := range bads() {
		for _, words := range [][]uint64{
			{c.word},
			{structWord(0, 0, 1), c.word}, {structWord(0, 2, 1), 7, 8, c.word},
			{structWord(0, 0, 3), 0, 0, c.word}, {structWord(0, 0, 3), c.word, 0, 0}, {structWord(0, 1, 3), 7, structWord(-1, 0, 0), c.word, 0},
			{listWord(0, api.OfPtrs, 1), c.word}, {listWord(0, api.OfPtrs, 3), 0, 0, c.word}, {listWord(0, api.OfPtrs, 2), c.word, 0},
			{structWord(0, 0, 2), listWord(1, api.OfPtrs, 2), 0, structWord(-1, 0, 0), structWord(0, 0, 1), c.word},
			{structWord(0, 0, 1), structWord(0, 0, 1), listWord(0, api.OfPtrs, 1), listWord(0, api.OfPtrs, 2), 0, c.word},
			{structWord(0, 0, 2), structWord(1, 1, 0), c.word, 7},
		} {
			refused(t, api.Arena{words, pad()}, c.want)
		}
		// Where nothing leads to it, or it is no pointer, it does no harm.
		decoded(t, api.Arena{{0, c.word}, pad()}, api.Node{})
		decoded(t, api.Arena{{structWord(0, 1, 0), c.word}, pad()}, api.Node{Kind: api.Struct, Words: []uint64{c.word}})
		decoded(t, api.Arena{{listWord(0, api.OfWords, 1), c.word}, pad()}, api.Node{Kind: api.List, Size: api.OfWords, Words: []uint64{c.word}})
	}
}

// chain are n words, each of which leads to the next one, structs and lists by turns, and words behind them.
func chain(n int, words ...uint64) []uint64 {
	var l []uint64
	for i := range n {
		if i%3 == 0 {
			l = append(l, listWord(0, api.OfPtrs, 1))
		} else {
			l = append(l, structWord(0, 0, 1))
		}
	}
	return append(l, words...)
}

// TestDecodeByDepth lays each kind of thing into n others.
func TestDecodeByDepth(t *testing.T) {
	things := [][]uint64{
		{structWord(-1, 0, 0)}, {structWord(0, 1, 0), 7}, {structWord(0, 0, 1), 0}, {listWord(0, api.OfBytes, 0)}, {listWord(0, api.OfBytes, 9), 7, 8},
		{listWord(0, api.OfWords, 0)}, {listWord(0, api.OfWords, 1), 7}, {listWord(0, api.OfPtrs, 0)}, {listWord(0, api.OfPtrs, 2), 0, 0}, {farWord(1, 0)}, {doubleWord(1, 1)},
	}
	segment := []uint64{structWord(0, 0, 0) | 4, farWord(1, 0), listWord(0, api.OfBytes, 0)}
	for n := range 40 {
		for _, words := range things {
			got, err := Decode(api.Arena{chain(n, words...), segment})
			if n >= 32 {
				refused(t, api.Arena{chain(n, words...), segment}, api.ErrDepth)
			} else if err != api.OK || levels(got) != n+1 {
				t.Errorf("Decode of %x in %d others is %d deep, %d", words, n, levels(got), err)
			}
		}
		// Null lies in as many as may be.
		if n > 32 {
			refused(t, api.Arena{chain(n, 0)}, api.ErrDepth)
		} else if got, err := Decode(api.Arena{chain(n, 0)}); err != api.OK || levels(got) != n {
			t.Errorf("Decode of Null in %d others is %d deep, %d", n, levels(got), err)
		}
	}
	// How deep what is beside it lies does not count, and far pointers do not.
	wide := []uint64{structWord(0, 0, 3), structWord(-1, 0, 0), structWord(1, 0, 1), structWord(-1, 0, 0)}
	if got, err := Decode(api.Arena{append(wide, chain(29, structWord(-1, 0, 0))...)}); err != api.OK || levels(got) != 32 {
		t.Errorf("Decode is %d deep, %d", levels(got), err)
	}
	refused(t, api.Arena{append(wide, chain(30, structWord(-1, 0, 0))...)}, api.ErrDepth)
	far := func(n int) api.Arena {
		a := api.Arena{{farWord(1, 0)}, nil}
		for i := range n {
			a[1] = append(a[1], structWord(0, 0, 1), farWord(1, 2*i+2))
		}
		a[1][2*n-1] = 0
		return a
	}
	if got, err := Decode(far(32)); err != api.OK || levels(got) != 32 {
		t.Errorf("Decode of far pointers is %d deep, %d", levels(got), err)
	}
	refused(t, far(33), api.ErrDepth)
}

// levels are how many things lie one in the other.
func levels(tree api.Node) int {
	n := 0
	for _, kid := range tree.Kids {
		n = max(n, levels(kid))
	}
	if tree.Kind != api.Null {
		n++
	}
	return n
}

// costly is an arena that costs as much as is told: its last Kid is what the words behind it have, which costs last.
func costly(cost, last int, words ...uint64) api.Arena {
	const many, long = 4, 1500 // it leads to one list of words again and again
	data := cost - (1 + many + 1) - many*(1+long) - last
	l := append([]uint64{structWord(0, data, many+1)}, ones(data)...)
	for k := range many {
		l = append(l, listWord(many+len(words)-1-k, api.OfWords, long))
	}
	return api.Arena{append(append(l, words...), ones(long)...)}
}

func TestDecodeByCost(t *testing.T) {
	for _, c := range []struct {
		last  int
		words []uint64
	}{
		{1, []uint64{0}}, {1, []uint64{structWord(-1, 0, 0)}}, {2, []uint64{structWord(0, 1, 0), 7}}, {3, []uint64{structWord(0, 0, 1), 0}},
		{4, []uint64{structWord(0, 1, 1), 7, 0}}, {1, []uint64{listWord(0, api.OfWords, 0)}}, {1, []uint64{listWord(0, api.OfBytes, 0)}}, {1, []uint64{listWord(0, api.OfPtrs, 0)}},
		{2, []uint64{listWord(0, api.OfBytes, 1), 7}}, {2, []uint64{listWord(0, api.OfBytes, 8), 7}}, {3, []uint64{listWord(0, api.OfBytes, 9), 7, 8}},
		{4, []uint64{listWord(0, api.OfWords, 3), 7, 8, 9}}, {7, []uint64{listWord(0, api.OfPtrs, 3), 0, 0, 0}}, {6, []uint64{listWord(0, api.OfPtrs, 2), structWord(0, 0, 0) | 4, structWord(0, 1, 0), 8}},
	} {
		for _, cost := range []int{8000, 8191, 8192} {
			a := costly(cost, c.last, c.words...)
			got, err := Decode(a)
			if err != api.OK || Cost(got) != cost || len(got.Kids) != 5 {
				t.Errorf("Decode of what costs %d, the last Kid %x, costs %d, %d", cost, c.words, Cost(got), err)
			}
		}
		for _, cost := range []int{8193, 8194, 8195, 8200, 8300} {
			refused(t, costly(cost, c.last, c.words...), api.ErrCost)
		}
	}
	// Things without words: each costs 1.
	empty := func(n int, word uint64) api.Arena {
		return api.Arena{append([]uint64{listWord(0, api.OfPtrs, n)}, slices.Repeat([]uint64{word}, n)...)}
	}
	for _, word := range []uint64{0, structWord(-1, 0, 0), listWord(-1, api.OfBytes, 0), listWord(-1, api.OfWords, 0), listWord(-1, api.OfPtrs, 0)} {
		if got, err := Decode(empty(4095, word)); err != api.OK || len(got.Kids) != 4095 || Cost(got) != 8191 {
			t.Errorf("Decode of 4095 things without words = %d Kids, %d", len(got.Kids), err)
		}
	}
	// 2047 things that cost 3 each, and one that costs 2048.
	if got, err := Decode(api.Arena{append(append([]uint64{structWord(0, 0, 2047), listWord(2046, api.OfWords, 2)}, doubled(2046)...), 7, 8)}); err != api.OK || Cost(got) != 2048+2047*3 {
		t.Errorf("Decode = %d Kids, %d", len(got.Kids), err)
	}
}

// doubled are so many pointers, all of them to the two words behind the last one.
func doubled(n int) []uint64 {
	var l []uint64
	for i := range n {
		l = append(l, listWord(n-1-i, api.OfWords, 2))
	}
	return l
}

// TestWhatIsLedToTwice costs twice, and is there twice.
func TestWhatIsLedToTwice(t *testing.T) {
	one := api.Node{Kind: api.Struct, Words: []uint64{7}}
	decoded(t, api.Arena{{structWord(0, 0, 2), structWord(1, 1, 0), structWord(0, 1, 0), 7}}, api.Node{Kind: api.Struct, Kids: []api.Node{one, one}})
	// Each level leads to the next one twice: 2^n things, of 3 words each.
	for n := range 16 {
		words := []uint64{structWord(0, 0, 2)}
		for range n {
			words = append(words, structWord(1, 0, 2), structWord(0, 0, 2))
		}
		a := api.Arena{append(words, 0, 0)}
		if cost := 3*(1<<(n+1)-1) + 1<<(n+1); cost > 8192 {
			refused(t, a, api.ErrCost)
		} else if got, err := Decode(a); err != api.OK || Cost(got) != cost {
			t.Errorf("Decode of 2^%d things costs %d, %d, want %d", n, Cost(got), err, cost)
		}
	}
	// What costs more than all may, by the second time.
	twice := func(n int) api.Arena {
		return api.Arena{append([]uint64{listWord(0, api.OfPtrs, 2), listWord(1, api.OfWords, n), listWord(0, api.OfWords, n)}, ones(n)...)}
	}
	if got, err := Decode(twice(4093)); err != api.OK || Cost(got) != 3+2*4094 {
		t.Errorf("Decode of 4093 words twice costs %d, %d", Cost(got), err)
	}
	thrice := api.Arena{append([]uint64{listWord(0, api.OfPtrs, 3), listWord(2, api.OfWords, 4000), listWord(1, api.OfWords, 4000), listWord(0, api.OfWords, 4000)}, ones(4000)...)}
	refused(t, thrice, api.ErrCost)
}

func TestWhatLeadsToItself(t *testing.T) {
	for _, c := range []struct {
		a    api.Arena
		want api.Errno
	}{
		{api.Arena{{structWord(-1, 0, 1)}}, api.ErrDepth},
		{api.Arena{{structWord(-1, 1, 0)}}, api.OK}, // it has its own pointer as a word
		{api.Arena{{listWord(-1, api.OfPtrs, 1)}}, api.ErrDepth},
		{api.Arena{{listWord(-1, api.OfWords, 1)}}, api.OK},
		{api.Arena{{listWord(-1, api.OfBytes, 8)}}, api.OK},
		{api.Arena{{structWord(0, 0, 2), structWord(-1, 0, 2), structWord(-2, 0, 2)}}, api.ErrDepth},
		{api.Arena{{structWord(0, 0, 2), 0, structWord(-2, 0, 2)}}, api.ErrDepth},
		{api.Arena{{farWord(1, 0)}, {structWord(-1, 0, 1)}}, api.ErrDepth},
		{api.Arena{{farWord(1, 0)}, {structWord(0, 0, 1), farWord(1, 0)}}, api.ErrDepth},
		{api.Arena{append([]uint64{structWord(0, 300, 1)}, append(ones(300), structWord(-301, 300, 1))...)}, api.ErrCost},
		{api.Arena{append([]uint64{structWord(0, 253, 1)}, append(ones(253), structWord(-254, 253, 1))...)}, api.ErrDepth}, // 32 of 255 are 8160
		{api.Arena{append([]uint64{structWord(0, 254, 1)}, append(ones(254), structWord(-255, 254, 1))...)}, api.ErrDepth}, // 32 of 256 are 8192
		{api.Arena{append([]uint64{structWord(0, 255, 1)}, append(ones(255), structWord(-256, 255, 1))...)}, api.ErrCost},
	} {
		if c.want != api.OK {
			refused(t, c.a, c.want)
		} else if _, err := Decode(c.a); err != api.OK {
			t.Errorf("Decode of %x = %d", c.a, err)
		}
	}
}

// TestWhichErrorComesFirst has two, or more, that would do.
func TestWhichErrorComesFirst(t *testing.T) {
	deep := func(word uint64) []uint64 {
		return append([]uint64{structWord(1, 0, 1), word}, chain(31, structWord(-1, 0, 0))...)
	}
	loop := listWord(-3, api.OfPtrs, 4000) // of itself, where it is the word 2
	full := func(words ...uint64) api.Arena {
		return api.Arena{append(words, make([]uint64, 4000-len(words))...)}
	}
	for _, c := range []struct {
		what string
		a    api.Arena
		want api.Errno
	}{
		{"a Kid of no kind, a Kid out of bounds", api.Arena{{structWord(0, 0, 2), capability, structWord(99, 1, 0)}}, api.ErrKind},
		{"a Kid out of bounds, a Kid of no kind", api.Arena{{structWord(0, 0, 2), structWord(99, 1, 0), capability}}, api.ErrBounds},
		{"a Kid's Kid out of bounds, a Kid of no kind", api.Arena{{listWord(0, api.OfPtrs, 2), structWord(1, 0, 1), capability, structWord(99, 1, 0)}}, api.ErrBounds},
		{"a Kid of no kind, a Kid's Kid out of bounds", api.Arena{{listWord(0, api.OfPtrs, 2), capability, structWord(0, 0, 1), structWord(99, 1, 0)}}, api.ErrKind},
		{"a Kid's second Kid out of bounds, a Kid of no kind", api.Arena{{structWord(0, 0, 2), listWord(1, api.OfPtrs, 2), capability, 0, structWord(99, 1, 0)}}, api.ErrBounds},
		{"itself out of bounds, a Kid of no kind", api.Arena{{structWord(0, 0, 9), capability}}, api.ErrBounds},
		{"a Kid too deep, a Kid of no kind", api.Arena{append([]uint64{structWord(0, 0, 2)}, deep(capability)...)}, api.ErrDepth},
		{"a Kid of no kind, a Kid too deep", api.Arena{append([]uint64{structWord(0, 0, 2), capability, structWord(0, 0, 1)}, chain(31, structWord(-1, 0, 0))...)}, api.ErrKind},
		{"too deep and out of bounds", api.Arena{chain(32, structWord(99, 1, 0))}, api.ErrBounds},
		{"too deep and of no kind", api.Arena{chain(32, capability)}, api.ErrKind},
		{"too deep, a Kid of no kind", api.Arena{chain(32, structWord(0, 0, 1), capability)}, api.ErrDepth},
		{"too deep, and costs too much", api.Arena{append([]uint64{structWord(0, 254, 1)}, append(ones(254), structWord(-255, 254, 1))...)}, api.ErrDepth},
		{"costs too much, a Kid of no kind", full(listWord(0, api.OfPtrs, 3), 0, loop, capability), api.ErrCost},
		{"a Kid of no kind, a Kid costs too much", full(listWord(0, api.OfPtrs, 3), capability, loop, 0), api.ErrKind},
		{"a Kid out of bounds, which costs too much", api.Arena{append([]uint64{structWord(0, 0, 3), listWord(1, api.OfWords, 4000), listWord(0, api.OfWords, 4000), listWord(0, api.OfWords, 4000)}, ones(3999)...)}, api.ErrBounds},
		{"a Kid of no kind, behind what costs too much", api.Arena{append([]uint64{structWord(0, 0, 4), listWord(2, api.OfWords, 4000), listWord(1, api.OfWords, 4000), listWord(0, api.OfWords, 4000), capability}, ones(4000)...)}, api.ErrCost},
		{"a Kid of no kind, ahead of what costs too much", api.Arena{append([]uint64{structWord(0, 0, 4), listWord(2, api.OfWords, 4000), capability, listWord(0, api.OfWords, 4000), listWord(0, api.OfWords, 4000)}, ones(4000)...)}, api.ErrKind},
		{"no arena, out of bounds", api.Arena{{structWord(9, 1, 0)}, make([]uint64, 4096)}, api.ErrArg},
	} {
		if got, err := Decode(c.a); text(got) != text(api.Node{}) || err != c.want {
			t.Errorf("%s: Decode = Kind %d, %d Kids, %d, want %d", c.what, got.Kind, len(got.Kids), err, c.want)
		}
	}
}

// lists are all lists of a tree.
type lists struct {
	words [][]uint64
	bytes [][]byte
	kids  [][]api.Node
}

func (l *lists) add(tree api.Node) {
	l.words, l.bytes, l.kids = append(l.words, tree.Words[:cap(tree.Words)]), append(l.bytes, tree.Bytes[:cap(tree.Bytes)]), append(l.kids, tree.Kids[:cap(tree.Kids)])
	for _, kid := range tree.Kids {
		l.add(kid)
	}
}

// each tells each number in them, all that lies behind their lengths too, and what it may be: the least number that was not told yet.
func (l *lists) each(f func(i int, word *uint64, b *byte, kid *api.Node)) {
	i := 0
	for _, words := range l.words {
		for k := range words {
			f(i, &words[k], nil, nil)
			i++
		}
	}
	for _, bytes := range l.bytes {
		for k := range bytes {
			f(i, nil, &bytes[k], nil)
			i++
		}
	}
	for _, kids := range l.kids {
		for k := range kids {
			f(i, nil, nil, &kids[k])
			i++
		}
	}
}

// TestListsOfATreeShareNothing sets each number of a tree to another one, and looks whether all are so then.
func TestListsOfATreeShareNothing(t *testing.T) {
	for _, a := range []api.Arena{
		builds(sample())[0], builds(listOf(sample(), sample()))[0],
		{{structWord(0, 0, 2), structWord(1, 1, 1), structWord(0, 1, 1), 7, listWord(0, api.OfBytes, 9), 1, 2}},
		{{listWord(0, api.OfPtrs, 3), listWord(2, api.OfBytes, 16), listWord(1, api.OfWords, 2), listWord(0, api.OfPtrs, 2), 0, 0}},
	} {
		tree, err := Decode(a)
		if err != api.OK {
			t.Fatalf("Decode = %d", err)
		}
		var l lists
		l.add(tree)
		l.each(func(i int, word *uint64, b *byte, kid *api.Node) {
			switch {
			case word != nil:
				*word = uint64(i)
			case b != nil:
				*b = byte(i)
			default:
				kid.Size = i
			}
		})
		l.each(func(i int, word *uint64, b *byte, kid *api.Node) {
			if word != nil && *word != uint64(i) || b != nil && *b != byte(i) || kid != nil && kid.Size != i {
				t.Errorf("of the tree of %x the number %d is shared", a, i)
			}
		})
	}
}

// TestWhatIsDecodedIsNewMemory spoils what came out, and what was handed in.
func TestWhatIsDecodedIsNewMemory(t *testing.T) {
	for _, a := range builds(sample()) {
		own := text(a)
		first, err := Decode(a)
		second, _ := Decode(a)
		want := text(sample())
		if err != api.OK || text(first) != want || text(second) != want {
			t.Fatalf("Decode = %v, %d, and then %v", first, err, second)
		}
		spoil(first)
		if text(a) != own {
			t.Error("what was decoded shares memory with what was handed in")
		}
		if text(second) != want {
			t.Error("what was decoded shares memory with what was decoded ahead of it")
		}
		for _, words := range a {
			clear(words[:cap(words)])
		}
		if text(second) != want {
			t.Error("what was handed in shares memory with what was decoded")
		}
	}
}

// spoil sets all of a tree to something else, also what lies behind its lists.
func spoil(tree api.Node) {
	var l lists
	l.add(tree)
	l.each(func(i int, word *uint64, b *byte, kid *api.Node) {
		switch {
		case word != nil:
			*word ^= 0x55
		case b != nil:
			*b ^= 0x55
		default:
			*kid = api.Node{Kind: -1, Size: -1, Words: ones(1), Bytes: []byte{9}, Kids: nulls(1)}
		}
	})
}

// TestDecodeLooksAtNothingBehindALength has a thing that begins in a segment, and would end behind its length.
func TestDecodeLooksAtNothingBehindALength(t *testing.T) {
	words := []uint64{structWord(0, 1, 1), 7, structWord(0, 1, 0), 8}
	refused(t, api.Arena{words[:2]}, api.ErrBounds)
	refused(t, api.Arena{words[:3]}, api.ErrBounds)
	eight := api.Node{Kind: api.Struct, Words: []uint64{8}}
	decoded(t, api.Arena{words}, api.Node{Kind: api.Struct, Words: []uint64{7}, Kids: []api.Node{eight}})
	segments := api.Arena{{farWord(1, 0)}, {structWord(-1, 0, 0)}}
	refused(t, segments[:1], api.ErrBounds)
	decoded(t, segments, record(0))
	if text(words) != text([]uint64{structWord(0, 1, 1), 7, structWord(0, 1, 0), 8}) {
		t.Error("what was handed in was changed")
	}
}
