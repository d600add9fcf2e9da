package tree

import (
	"math"
	"slices"
	"testing"

	"sculler/api"
	"sculler/read"
)

// asked looks what a path leads to in a tree.
func asked(t *testing.T, tree api.Node, p api.Path, want api.Value, wantErr api.Errno) {
	t.Helper()
	if v, err := Ask(tree, p); v != want || err != wantErr {
		t.Errorf("Ask of %.200s .., %v = %+v, %d, want %+v, %d", text(tree), p, v, err, want, wantErr)
	}
}

func TestExample(t *testing.T) {
	asked(t, api.Node{Kind: api.Struct, Words: []uint64{7}}, path(0), api.Value{Kind: api.Struct, Word: 7}, api.OK)
}

func TestAskWhatItIs(t *testing.T) {
	for _, at := range []int{-1, -2, -1 << 32, math.MinInt} {
		asked(t, api.Node{}, path(at), api.Value{}, api.OK)
		asked(t, record(0), path(at), api.Value{Kind: api.Struct}, api.OK)
		asked(t, record(3, nulls(2)...), path(at), api.Value{Kind: api.Struct, Words: 3, Kids: 2}, api.OK)
		asked(t, record(100, nulls(100)...), path(at), api.Value{Kind: api.Struct, Words: 100, Kids: 100}, api.OK)
		asked(t, bytesOf(0), path(at), api.Value{Kind: api.List, Size: api.OfBytes}, api.OK)
		asked(t, bytesOf(9), path(at), api.Value{Kind: api.List, Size: api.OfBytes, Words: 9}, api.OK)
		asked(t, bytesOf(4096), path(at), api.Value{Kind: api.List, Size: api.OfBytes, Words: 4096}, api.OK)
		asked(t, wordsOf(0), path(at), api.Value{Kind: api.List, Size: api.OfWords}, api.OK)
		asked(t, wordsOf(4096), path(at), api.Value{Kind: api.List, Size: api.OfWords, Words: 4096}, api.OK)
		asked(t, listOf(), path(at), api.Value{Kind: api.List, Size: api.OfPtrs}, api.OK)
		asked(t, listOf(nulls(4096)...), path(at), api.Value{Kind: api.List, Size: api.OfPtrs, Kids: 4096}, api.OK)
		asked(t, record(1, api.Node{}, wordsOf(5)), path(at, 1), api.Value{Kind: api.List, Size: api.OfWords, Words: 5}, api.OK)
		asked(t, record(1, api.Node{}, wordsOf(5)), path(at, 0), api.Value{}, api.OK)
	}
}

func TestAskAWord(t *testing.T) {
	for at := range 3 {
		want := api.Value{Word: math.MaxUint64 - uint64(at)<<8}
		want.Kind = api.Struct
		asked(t, record(3), path(at), want, api.OK)
		asked(t, listOf(api.Node{}, record(3)), path(at, 1), want, api.OK)
		want.Kind = api.List
		asked(t, wordsOf(3), path(at), want, api.OK)
		asked(t, record(9, wordsOf(3)), path(at, 0), want, api.OK)
	}
	for at := range 25 {
		asked(t, bytesOf(25), path(at), api.Value{Kind: api.List, Word: uint64(255 - 7*at)}, api.OK)
	}
	asked(t, bytesOf(4096), path(4095), api.Value{Kind: api.List, Word: uint64(byte(255 - 7*4095&0xff))}, api.OK)
	asked(t, wordsOf(4096), path(4095), api.Value{Kind: api.List, Word: math.MaxUint64 - 4095<<8}, api.OK)
}

// TestAskAWordBeyond has the first one that there is none of, and others.
func TestAskAWordBeyond(t *testing.T) {
	for _, more := range []int{0, 1, 7, 8, 1 << 32, math.MaxInt - 4096} {
		asked(t, api.Node{}, path(more), api.Value{}, api.OK)
		asked(t, listOf(api.Node{}), path(more, 0), api.Value{}, api.OK)
		for _, n := range []int{0, 1, 8, 100} {
			asked(t, record(n), path(n+more), api.Value{Kind: api.Struct}, api.OK)
			asked(t, record(n, bytesOf(9)), path(n+more), api.Value{Kind: api.Struct}, api.OK)
			asked(t, wordsOf(n), path(n+more), api.Value{}, api.ErrBounds)
			asked(t, bytesOf(n), path(n+more), api.Value{}, api.ErrBounds)
			asked(t, record(9, bytesOf(n)), path(n+more, 0), api.Value{}, api.ErrBounds)
		}
		// A list of pointers has no word, neither where it has a Kid nor beyond.
		asked(t, listOf(), path(more), api.Value{}, api.ErrKind)
		asked(t, listOf(nulls(3)...), path(more), api.Value{}, api.ErrKind)
		asked(t, record(0, listOf(nulls(3)...)), path(more, 0), api.Value{}, api.ErrKind)
	}
}

func TestAskByAStep(t *testing.T) {
	kids := []api.Node{record(1), api.Node{}, bytesOf(3), wordsOf(2), listOf(record(7))}
	wants := []api.Value{
		{Kind: api.Struct, Words: 1}, {}, {Kind: api.List, Size: api.OfBytes, Words: 3}, {Kind: api.List, Size: api.OfWords, Words: 2}, {Kind: api.List, Size: api.OfPtrs, Kids: 1},
	}
	for k, want := range wants {
		asked(t, record(0, kids...), path(-1, k), want, api.OK)
		asked(t, record(99, kids...), path(-1, k), want, api.OK)
		asked(t, listOf(kids...), path(-1, k), want, api.OK)
		asked(t, listOf(listOf(), record(1, kids...)), path(-1, 1, k), want, api.OK)
	}
	asked(t, record(0, kids...), path(-1, 4, 0), api.Value{Kind: api.Struct, Words: 7}, api.OK)
	for _, more := range []int{0, 1, 7, 1 << 32, math.MaxInt - 5} {
		asked(t, record(0, kids...), path(-1, 5+more), api.Value{}, api.OK)
		asked(t, record(0, kids...), path(0, 5+more), api.Value{}, api.OK)
		asked(t, record(9), path(3, more), api.Value{}, api.OK)
		asked(t, listOf(kids...), path(-1, 5+more), api.Value{}, api.ErrBounds)
		asked(t, listOf(), path(-1, more), api.Value{}, api.ErrBounds)
		for _, l := range []api.Node{bytesOf(0), bytesOf(9), wordsOf(0), wordsOf(9)} {
			asked(t, l, path(-1, more), api.Value{}, api.ErrKind)
			asked(t, record(0, api.Node{}, l), path(0, 1, more), api.Value{}, api.ErrKind)
		}
		// From Null on there is nothing but Null, also where a struct has no such Kid.
		asked(t, api.Node{}, path(-1, more), api.Value{}, api.OK)
		asked(t, api.Node{}, path(9, more, 0, more), api.Value{}, api.OK)
		asked(t, listOf(api.Node{}), path(3, 0, more, 1), api.Value{}, api.OK)
		asked(t, record(0, kids...), path(3, 5+more, more, 1), api.Value{}, api.OK)
	}
}

// nest are n structs, each the next one's only Kid, the innermost one with a word.
func nest(n int) api.Node {
	tree := api.Node{Kind: api.Struct, Words: []uint64{7}}
	for range n - 1 {
		tree = record(0, tree)
	}
	return tree
}

func TestAskByManySteps(t *testing.T) {
	for n := range 40 {
		p := path(0, make([]int, n)...)
		for _, c := range []struct {
			tree api.Node
			want api.Value
		}{{api.Node{}, api.Value{}}, {record(3), api.Value{Kind: api.Struct, Word: math.MaxUint64}}, {nest(n + 1), api.Value{Kind: api.Struct, Word: 7}}} {
			switch {
			case n > 32:
				asked(t, c.tree, p, api.Value{}, api.ErrLong)
			case n > 0 && len(c.tree.Kids) == 0:
				asked(t, c.tree, p, api.Value{}, api.OK)
			default:
				asked(t, c.tree, p, c.want, api.OK)
			}
		}
	}
	asked(t, api.Node{}, path(0, make([]int, 100000)...), api.Value{}, api.ErrLong)
	// As deep as may be, and Null behind that.
	asked(t, nest(32), path(0, make([]int, 31)...), api.Value{Kind: api.Struct, Word: 7}, api.OK)
	asked(t, nest(32), path(0, make([]int, 32)...), api.Value{}, api.OK)
}

// TestAskTellsWhatComesFirst has more than one thing that is wrong.
func TestAskTellsWhatComesFirst(t *testing.T) {
	for _, n := range []int{1, 2, 31, 32, 33, 1000} {
		for i := range n {
			for _, k := range []int{-1, -2, math.MinInt} {
				p := path(9, slices.Repeat([]int{5}, n)...)
				p.Steps[i] = k
				for _, tree := range []api.Node{{}, nest(3), wordsOf(1), listOf(), listOf(nulls(9)...)} {
					asked(t, tree, p, api.Value{}, api.ErrArg)
				}
			}
		}
	}
	long := make([]int, 33)
	for _, tree := range []api.Node{wordsOf(1), bytesOf(0), listOf(), listOf(wordsOf(1))} {
		asked(t, tree, path(9, long...), api.Value{}, api.ErrLong)
	}
	asked(t, listOf(wordsOf(1)), path(9, 1, 0), api.Value{}, api.ErrBounds)
	asked(t, listOf(wordsOf(1)), path(9, 0, 0), api.Value{}, api.ErrKind)
	asked(t, listOf(wordsOf(1)), path(9, 0), api.Value{}, api.ErrBounds)
	asked(t, listOf(wordsOf(1)), path(9), api.Value{}, api.ErrKind)
	asked(t, listOf(wordsOf(1), listOf()), path(9, 0, 0, 7), api.Value{}, api.ErrKind)
	asked(t, listOf(wordsOf(1), listOf()), path(9, 1, 0, 7), api.Value{}, api.ErrBounds)
}

// TestAskWhateverThatCosts goes over more than any walk may.
func TestAskWhateverThatCosts(t *testing.T) {
	tree := record(0, bytesOf(2))
	for range 5 {
		tree = listOf(append(nulls(4095), tree)...)
	}
	steps := append(slices.Repeat([]int{4095}, 5), 0)
	asked(t, tree, path(1, steps...), api.Value{Kind: api.List, Word: 248}, api.OK)
	asked(t, tree, path(2, steps...), api.Value{}, api.ErrBounds)
	asked(t, tree, path(-1, append(steps[:5:5], 1)...), api.Value{}, api.OK)
}

// steps are those to each thing of a tree, and from each one of them to some that are none.
func steps(tree api.Node, ahead []int) [][]int {
	l := [][]int{ahead}
	for k, kid := range tree.Kids {
		l = append(l, steps(kid, append(slices.Clone(ahead), k))...)
	}
	for _, k := range []int{-1, len(tree.Kids), len(tree.Kids) + 1, math.MaxInt} {
		l = append(l, append(slices.Clone(ahead), k), append(slices.Clone(ahead), k, 0))
	}
	return l
}

// sameWay looks whether a path leads to the same thing in a tree and in an arena.
func sameWay(t *testing.T, tree api.Node, s read.Source, p api.Path) api.Errno {
	t.Helper()
	want, wantErr := read.Walk(s, p, math.MaxInt)
	asked(t, tree, p, want, wantErr)
	return wantErr
}

// ends are the first and the last arena that a tree is built as: most often one of several segments, and one of a single one.
func ends(tree api.Node) []api.Arena {
	l := builds(tree)
	return []api.Arena{l[0], l[len(l)-1]}
}

// TestAPathLeadsToTheSame has what was built, in several segments and in one, and the tree that is decoded of it, at every path.
func TestAPathLeadsToTheSame(t *testing.T) {
	many := map[api.Errno]int{}
	draw := draws(11)
	l := trees()
	for range 300 {
		l = append(l, drawn(draw, 2+draw(6), draw(5)))
	}
	for _, tree := range l {
		for _, a := range ends(tree) {
			s := read.Whole(a)
			back, err := Decode(a)
			if err != api.OK {
				t.Fatalf("Decode of %x = %d", a, err)
			}
			for _, p := range Paths(tree, math.MaxInt) {
				sameWay(t, back, s, p)
			}
			for _, own := range steps(tree, nil) {
				for _, at := range []int{-2, 0, 3, 9, 4095} {
					many[sameWay(t, back, s, path(at, own...))]++
				}
			}
		}
	}
	for _, err := range []api.Errno{api.OK, api.ErrArg, api.ErrLong, api.ErrBounds, api.ErrKind} {
		if many[err] < 100 {
			t.Errorf("only %d paths end with %d", many[err], err)
		}
	}
}

// TestAPathLeadsToTheSameInAnyArena has drawn words, where they have a tree.
func TestAPathLeadsToTheSameInAnyArena(t *testing.T) {
	draw := draws(12)
	many := 0
	for range 20000 {
		a := drawnArena(draw)
		tree, err := Decode(a)
		if err != api.OK || len(tree.Kids) == 0 {
			continue
		}
		many++
		s := read.Whole(a)
		for i, p := range Paths(tree, 300) {
			sameWay(t, tree, s, p)
			sameWay(t, tree, s, path(p.At+1, append(p.Steps, i%4)...))
			sameWay(t, tree, s, path(p.At+9, p.Steps...))
		}
	}
	if many < 1000 {
		t.Errorf("only %d arenas have a tree with Kids", many)
	}
}

// TestStrangeTreesEnd has trees of which nothing else is promised.
func TestStrangeTreesEnd(t *testing.T) {
	for _, tree := range strange() {
		for _, s := range [][]int{nil, {0}, {1}, {-1}, {0, 0, 0}, make([]int, 32), make([]int, 33), slices.Repeat([]int{1}, 32), {math.MaxInt}} {
			for _, at := range []int{math.MinInt, -1, 0, 1, 9, math.MaxInt} {
				Ask(tree, path(at, s...))
			}
		}
		for _, most := range []int{-1, 0, 1, 99, 10000, math.MaxInt} {
			if l := Paths(tree, most); len(l) > max(0, min(most, 10000)) {
				t.Errorf("Paths tells %d of %d", len(l), most)
			}
		}
		Cost(tree)
	}
}

// TestWhatIsHandedInStays looks at trees and paths.
func TestWhatIsHandedInStays(t *testing.T) {
	for _, tree := range trees() {
		own := text(tree)
		steps := []int{0, 1, 2, 3, 4, 5}
		for n := range steps {
			for at := -1; at < 4; at++ {
				Ask(tree, api.Path{Steps: steps[:n], At: at})
			}
		}
		Paths(tree, 100)
		Cost(tree)
		if text(tree) != own || text(steps) != text([]int{0, 1, 2, 3, 4, 5}) {
			t.Error("what was handed in was changed")
		}
	}
}

// TestNothingBehindALength looks at memory that is there, but no more one of the list.
func TestNothingBehindALength(t *testing.T) {
	whole := record(3, bytesOf(9), record(5), wordsOf(7))
	own := text(whole)
	tree := whole
	tree.Words, tree.Kids = whole.Words[:1], whole.Kids[:1]
	bytes := bytesOf(9)
	bytes.Bytes = bytes.Bytes[:2]
	words := wordsOf(9)
	words.Words = words.Words[:2]
	list := listOf(record(1), record(1), record(1))
	list.Kids = list.Kids[:2]
	asked(t, tree, path(-1), api.Value{Kind: api.Struct, Words: 1, Kids: 1}, api.OK)
	asked(t, tree, path(1), api.Value{Kind: api.Struct}, api.OK)
	asked(t, tree, path(-1, 1), api.Value{}, api.OK)
	asked(t, bytes, path(2), api.Value{}, api.ErrBounds)
	asked(t, words, path(2), api.Value{}, api.ErrBounds)
	asked(t, list, path(0, 2), api.Value{}, api.ErrBounds)
	for i, c := range []struct {
		tree        api.Node
		cost, paths int
	}{{tree, 3 + 3, 2 + 10}, {bytes, 2, 3}, {words, 3, 3}, {list, 3 + 2*2, 1 + 2*2}} {
		if cost, paths := Cost(c.tree), len(Paths(c.tree, 99)); cost != c.cost || paths != c.paths {
			t.Errorf("tree %d: Cost = %d, %d Paths, want %d, %d", i, cost, paths, c.cost, c.paths)
		}
	}
	if text(whole) != own {
		t.Error("what lies behind a length was changed")
	}
}
