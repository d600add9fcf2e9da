package tree

import (
	"fmt"
	"math"
	"slices"

	"sculler/api"
	"sculler/arena"
	"sculler/build"
)

// structWord, listWord, farWord, doubleWord are pointers' words, field by field.
func structWord(off, data, ptrs int) uint64 {
	return uint64(uint32(off)<<2) | uint64(data)<<32 | uint64(ptrs)<<48
}

func listWord(off, size, count int) uint64 {
	return uint64(uint32(off)<<2) | 1 | uint64(size)<<32 | uint64(count)<<35
}

func farWord(seg, at int) uint64 {
	return uint64(at)<<3 | 2 | uint64(seg)<<32
}

func doubleWord(seg, at int) uint64 {
	return farWord(seg, at) | 4
}

// capability is a word of the fourth kind, which no pointer has.
const capability = 3

// ones are so many words that are others than noughts, and no pointers.
func ones(n int) []uint64 {
	l := make([]uint64, n)
	for i := range l {
		l[i] = math.MaxUint64 - uint64(i)<<8
	}
	return l
}

// record is a struct of so many words, and Kids; wordsOf and bytesOf are lists of so many, listOf is one of Kids.
func record(words int, kids ...api.Node) api.Node {
	return api.Node{Kind: api.Struct, Words: ones(words), Kids: kids}
}

func wordsOf(n int) api.Node {
	return api.Node{Kind: api.List, Size: api.OfWords, Words: ones(n)}
}

func bytesOf(n int) api.Node {
	l := make([]byte, n)
	for i := range l {
		l[i] = byte(255 - 7*i)
	}
	return api.Node{Kind: api.List, Size: api.OfBytes, Bytes: l}
}

func listOf(kids ...api.Node) api.Node {
	return api.Node{Kind: api.List, Size: api.OfPtrs, Kids: kids}
}

// nulls are so many Kids of no kind.
func nulls(n int) []api.Node {
	return make([]api.Node, n)
}

// within is n things one in the other, the innermost of them as it is told.
func within(n int, inner api.Node) api.Node {
	t := inner
	for i := 1; i < n; i++ {
		if i%2 == 0 {
			t = listOf(api.Node{}, t)
		} else {
			t = record(1, t, api.Node{})
		}
	}
	return t
}

// sample has one of each, several deep.
func sample() api.Node {
	return record(2,
		bytesOf(9), api.Node{}, wordsOf(3),
		listOf(record(1, bytesOf(1), bytesOf(2)), api.Node{}, listOf(wordsOf(1)), record(0)),
		record(1, record(1, record(1, api.Node{}))))
}

// trees have all kinds, with words and without, and some are as deep as may be, or as wide.
func trees() []api.Node {
	return []api.Node{
		{}, record(0), record(1), record(3, api.Node{}), record(0, nulls(2)...), bytesOf(0), bytesOf(1), bytesOf(7), bytesOf(8), bytesOf(9), bytesOf(25),
		wordsOf(0), wordsOf(1), wordsOf(5), listOf(), listOf(nulls(3)...), listOf(api.Node{}, record(2)), sample(), listOf(sample(), sample()),
		listOf(record(0), bytesOf(0), wordsOf(0), listOf()), record(0, listOf(), wordsOf(0), bytesOf(0), record(0)),
		listOf(listOf(listOf(bytesOf(9)), wordsOf(0)), record(0, record(0, wordsOf(7)), api.Node{}), bytesOf(16)),
		record(100, slices.Repeat([]api.Node{record(1), bytesOf(9)}, 50)...), listOf(wordsOf(1000), bytesOf(4096), wordsOf(1000)),
		wordsOf(4095), bytesOf(4096), listOf(nulls(4095)...), record(100, nulls(100)...),
		within(31, record(0)), within(32, record(1)), within(32, bytesOf(3)), within(32, wordsOf(0)), within(32, listOf(nulls(2)...)), within(33, api.Node{}),
	}
}

// builds are the arenas of a tree, by each size that makes another one.
func builds(tree api.Node) []api.Arena {
	var l []api.Arena
	for size := 1; size <= api.MaxWords; size += 1 + size/20 {
		a, err := build.Build(tree, size)
		if err == api.OK && (len(l) == 0 || !arena.Same(a, l[len(l)-1])) {
			l = append(l, a)
		}
	}
	if a, err := build.Build(tree, api.MaxWords); err == api.OK {
		l = append(l, a)
	}
	return l
}

// strange are no trees that may be, each for one reason.
func strange() []api.Node {
	word, one, kid := ones(1), []byte{1}, []api.Node{record(1)}
	l := []api.Node{
		{Words: word}, {Bytes: one}, {Kids: kid}, {Size: api.OfPtrs, Kids: kid}, {Size: api.OfWords, Words: word}, {Size: api.OfBytes, Bytes: one},
		{Kind: api.Struct, Bytes: one}, {Kind: api.Struct, Size: api.OfPtrs, Kids: kid}, {Kind: api.Struct, Size: api.OfBytes, Words: word},
		{Kind: api.List, Words: word, Bytes: one, Kids: kid}, {Kind: api.List, Size: api.OfBytes, Words: word, Kids: kid},
		{Kind: api.List, Size: api.OfWords, Bytes: one, Kids: kid}, {Kind: api.List, Size: api.OfPtrs, Words: word, Bytes: one},
		record(101), record(0, nulls(101)...), wordsOf(4097), bytesOf(4097), listOf(nulls(4097)...), within(33, record(0)), within(1000, bytesOf(1)),
		itself(api.Struct, 0, 1), itself(api.Struct, 0, 3), itself(api.List, api.OfPtrs, 1), itself(api.List, api.OfPtrs, 4096),
		itself(api.Null, 0, 2), itself(api.Far, api.OfPtrs, 2), itself(-1, -1, 2), itself(api.List, api.OfWords, 2), crossed(),
	}
	for _, n := range []int{math.MinInt, -1, 3, 4, 7, 1 << 32, math.MaxInt} {
		l = append(l, api.Node{Kind: n}, api.Node{Kind: n, Size: n, Words: word, Bytes: one, Kids: kid}, api.Node{Kind: api.List, Size: n, Words: word, Bytes: one, Kids: kid})
	}
	return l
}

// itself is something whose Kids are all itself.
func itself(kind, size, many int) api.Node {
	kids := make([]api.Node, many)
	for k := range kids {
		kids[k] = api.Node{Kind: kind, Size: size, Kids: kids}
	}
	return kids[0]
}

// crossed are two lists of which each one has the other one, and pieces of both.
func crossed() api.Node {
	a, b := make([]api.Node, 9), make([]api.Node, 9)
	for k := range a {
		a[k], b[k] = record(1, b[:k]...), listOf(a[k:]...)
	}
	return record(0, a...)
}

// text is all of something; lists that are nil and lists that are empty have the same.
func text(x any) string {
	return fmt.Sprint(x)
}

// path is one of a last number and steps.
func path(at int, steps ...int) api.Path {
	return api.Path{Steps: steps, At: at}
}

// draws is a row of numbers without an order to be seen, the same each time.
func draws(seed uint64) func(below int) int {
	return func(below int) int {
		seed += 0x9e3779b97f4a7c15
		n := (seed ^ seed>>30) * 0xbf58476d1ce4e5b9
		n = (n ^ n>>27) * 0x94d049bb133111eb
		return int((n ^ n>>31) % uint64(below))
	}
}

// drawn is a tree of which each list has fewer than most things.
func drawn(draw func(int) int, most, depth int) api.Node {
	kids := func() []api.Node {
		var l []api.Node
		for range draw(most) {
			l = append(l, drawn(draw, most, depth-1))
		}
		return l
	}
	kind := draw(10)
	switch {
	case kind == 0:
		return api.Node{}
	case kind == 1:
		return bytesOf(draw(8 * most))
	case kind == 2:
		return wordsOf(draw(most))
	case depth == 0:
		return record(draw(most))
	case kind < 6:
		return listOf(kids()...)
	}
	return record(draw(most), kids()...)
}
