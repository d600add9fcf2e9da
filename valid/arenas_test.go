package valid

import (
	"fmt"
	"math/rand/v2"
	"slices"
	"testing"

	"sculler/api"
	"sculler/build"
	"sculler/ptr"
)

// word is a pointer's; structWord, listWord, farWord, doubleWord are those of each kind.
func word(p api.Ptr) uint64 {
	w, err := ptr.Encode(p)
	if err != api.OK {
		panic(err)
	}
	return w
}

func structWord(off, data, ptrs int) uint64 {
	return word(api.Ptr{Kind: api.Struct, Off: off, Data: data, Ptrs: ptrs})
}

func listWord(off, size, count int) uint64 {
	return word(api.Ptr{Kind: api.List, Off: off, Size: size, Count: count})
}

func farWord(seg, at int) uint64 {
	return word(api.Ptr{Kind: api.Far, Seg: seg, Off: at})
}

func doubleWord(seg, at int) uint64 {
	return word(api.Ptr{Kind: api.Far, Seg: seg, Off: at, Double: true})
}

// capability is a word of the fourth kind, which no pointer has.
const capability = 3

// upTo are the numbers from 1 on, as words.
func upTo(n int) []uint64 {
	l := make([]uint64, n)
	for i := range l {
		l[i] = uint64(i + 1)
	}
	return l
}

// record is a struct; wordsOf, bytesOf and listOf are lists.
func record(words []uint64, kids ...api.Node) api.Node {
	return api.Node{Kind: api.Struct, Words: words, Kids: kids}
}

func wordsOf(words ...uint64) api.Node {
	return api.Node{Kind: api.List, Size: api.OfWords, Words: words}
}

func bytesOf(text string) api.Node {
	return api.Node{Kind: api.List, Size: api.OfBytes, Bytes: []byte(text)}
}

func listOf(kids ...api.Node) api.Node {
	return api.Node{Kind: api.List, Size: api.OfPtrs, Kids: kids}
}

// nested is so many structs one in the other, and something in the innermost one.
func nested(n int, inner api.Node) api.Node {
	for i := range n {
		inner = record(upTo(i%2), inner)
	}
	return inner
}

// sample has one of each, several deep.
func sample() api.Node {
	return record(upTo(2),
		bytesOf("ninebytes"), api.Node{}, wordsOf(3, 1, 2),
		listOf(record(upTo(1), bytesOf("a"), bytesOf("bc")), api.Node{}, listOf(wordsOf(9)), record(nil)),
		nested(3, wordsOf()))
}

// trees are others, no two of them the same; each is another one by one thing from some of the rest.
func trees() []api.Node {
	empty, one := api.Node{}, record(upTo(1))
	return []api.Node{
		empty, record(nil), one, record([]uint64{2}), record([]uint64{1 << 63}), record(upTo(2)), record([]uint64{1, 0}), record([]uint64{2, 1}),
		record(nil, empty), record(nil, empty, empty), record(upTo(1), empty), record(nil, one), record(nil, record(nil)), record(nil, record([]uint64{2})),
		record(nil, one, empty), record(nil, empty, one), record(nil, one, one), record(upTo(1), one), record(nil, record(nil, one)),
		bytesOf(""), bytesOf("a"), bytesOf("b"), bytesOf("a\x00"), bytesOf("ab"), bytesOf("ba"), bytesOf("a234567"), bytesOf("a2345678"), bytesOf("a2345678\x00"), bytesOf("a23456789"),
		wordsOf(), wordsOf(1), wordsOf(2), wordsOf(1, 0), wordsOf(1, 2), wordsOf(2, 1), wordsOf('a'),
		listOf(), listOf(empty), listOf(empty, empty), listOf(one), listOf(one, one), listOf(one, empty), listOf(empty, one), listOf(listOf()), listOf(listOf(empty)),
		listOf(bytesOf("")), listOf(wordsOf()), listOf(record(nil)), listOf(wordsOf(1)), listOf(bytesOf("a")),
		sample(), listOf(sample()), listOf(sample(), sample()), record(nil, sample()), record(upTo(100), slices.Repeat([]api.Node{one, bytesOf("ninebytes")}, 50)...),
		nested(31, record(nil)), nested(31, bytesOf("")), nested(31, wordsOf(7)), nested(31, listOf(empty, empty)), nested(31, one), nested(31, empty), nested(32, empty),
	}
}

// drawn is a tree of which each list has fewer than most things.
func drawn(r *rand.Rand, most, depth int) api.Node {
	var kids []api.Node
	if depth > 0 {
		for range r.IntN(most) {
			kids = append(kids, drawn(r, most, depth-1))
		}
	}
	switch r.IntN(10) {
	case 0:
		return api.Node{}
	case 1:
		return bytesOf("sculler's bytes, word by word"[:r.IntN(30)])
	case 2:
		return wordsOf(upTo(r.IntN(most))...)
	case 3, 4, 5:
		return listOf(kids...)
	}
	return record(upTo(r.IntN(most)), kids...)
}

// everyTree are those above, and drawn ones.
func everyTree() []api.Node {
	l, r := trees(), rand.New(rand.NewPCG(11, 1))
	for range 200 {
		l = append(l, drawn(r, 2+r.IntN(5), r.IntN(4)))
	}
	return l
}

// built is a tree's arena; builds are all of them, by segments of few words and of many.
func built(t *testing.T, tree api.Node, size int) api.Arena {
	t.Helper()
	a, err := build.Build(tree, size)
	if err != api.OK {
		t.Fatalf("Build of %v by size %d: %d", tree, size, err)
	}
	return a
}

func builds(tree api.Node) []api.Arena {
	var l []api.Arena
	known := map[string]bool{}
	for _, size := range []int{1, 2, 3, 4, 5, 6, 7, 8, 9, 10, 12, 15, 20, 30, 50, 100, 200, 4096} {
		a, err := build.Build(tree, size)
		if err == api.OK && !known[text(a)] {
			known[text(a)] = true
			l = append(l, a)
		}
	}
	return l
}

// severalTimes is a list of so many pointers to one thing, of that many words at most; each pointer's Off is less by one than the one's ahead.
func severalTimes(kids, words int, pointer func(off int) uint64) api.Arena {
	l := []uint64{listWord(0, api.OfPtrs, kids)}
	for k := range kids {
		l = append(l, pointer(kids-1-k))
	}
	return api.Arena{append(l, upTo(words)...)}
}

// around is a struct of one word and two pointers, the first of them to itself, and the second one as it is told.
func around(second uint64) api.Arena {
	return api.Arena{{structWord(0, 1, 2), 7, structWord(-2, 1, 2), second}}
}

// copied is an arena in memory of its own.
func copied(a api.Arena) api.Arena {
	own := slices.Clone(a)
	for seg, words := range own {
		own[seg] = slices.Clone(words)
	}
	return own
}

// text is all of something; lists that are nil and lists that are empty have the same.
func text(x any) string {
	return fmt.Sprint(x)
}

// path is one of a last number and steps.
func path(at int, steps ...int) api.Path {
	return api.Path{Steps: steps, At: at}
}
