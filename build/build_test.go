package build

import (
	"fmt"
	"math"
	"slices"
	"testing"

	"sculler/api"
)

// refused looks whether nothing is built, and why.
func refused(t *testing.T, tree api.Node, size int, want api.Errno) {
	t.Helper()
	if a, err := Build(tree, size); a != nil || err != want {
		t.Errorf("Build of Kind %d, Size %d, %d words, %d bytes, %d Kids, by size %d = an arena of %d segments, %d, want nil and %d",
			tree.Kind, tree.Size, len(tree.Words), len(tree.Bytes), len(tree.Kids), size, len(a), err, want)
	}
}

// built looks whether an arena is built, and is word by word as it is told.
func built(t *testing.T, tree api.Node, size int, want ...[]uint64) {
	t.Helper()
	if a, err := Build(tree, size); fmt.Sprintf("%x", a) != fmt.Sprintf("%x", want) || err != api.OK {
		t.Errorf("Build of %v by size %d =\n%016x, %d, want\n%016x", tree, size, a, err, want)
	}
}

func TestExample(t *testing.T) {
	built(t, record([]uint64{7}), 9, []uint64{0x0000000100000000, 7})
}

func TestBuildOfWhatNeedsNoWords(t *testing.T) {
	for _, size := range []int{1, 2, 9, 4095, 4096} {
		built(t, api.Node{}, size, []uint64{0})
		built(t, record(nil), size, []uint64{0x00000000fffffffc})
		built(t, bytesOf(0), size, []uint64{0x0000000200000001})
		built(t, wordsOf(0), size, []uint64{0x0000000500000001})
		built(t, listOf(), size, []uint64{0x0000000600000001})
	}
	// As Kids they are the same, wherever they lie, and take no room.
	built(t, record(nil, api.Node{}, record(nil), bytesOf(0), wordsOf(0), listOf()), 6,
		[]uint64{0x0005000000000000, 0, 0x00000000fffffffc, 0x0000000200000001, 0x0000000500000001, 0x0000000600000001})
	built(t, listOf(listOf(), wordsOf(0), bytesOf(0), record(nil), api.Node{}), 4096,
		[]uint64{0x0000002e00000001, 0x0000000600000001, 0x0000000500000001, 0x0000000200000001, 0x00000000fffffffc, 0})
	built(t, listOf(wordsOf(3), record(nil), api.Node{}, wordsOf(0)), 5, // the pointers stand in another segment than the last
		[]uint64{0x0000002600000001, 0x0000000100000002, 0x00000000fffffffc, 0, 0x0000000500000001},
		[]uint64{0x0000001d00000001, 0x0100000000000001, 0x0200000000000003, 0x0300000000000005})
}

func TestBuildOfBytes(t *testing.T) {
	for _, c := range []struct {
		n    int
		want []uint64
	}{
		{1, []uint64{0x0000000a00000001, 0x01}},
		{2, []uint64{0x0000001200000001, 0x0801}},
		{7, []uint64{0x0000003a00000001, 0x2b241d160f0801}},
		{8, []uint64{0x0000004200000001, 0x322b241d160f0801}},
		{9, []uint64{0x0000004a00000001, 0x322b241d160f0801, 0x39}},
		{16, []uint64{0x0000008200000001, 0x322b241d160f0801, 0x6a635c554e474039}},
		{17, []uint64{0x0000008a00000001, 0x322b241d160f0801, 0x6a635c554e474039, 0x71}},
	} {
		built(t, bytesOf(c.n), 4096, c.want)
		built(t, bytesOf(c.n), len(c.want), c.want)
		refused(t, bytesOf(c.n), len(c.want)-1, api.ErrFull)
	}
}

func TestBuildOfWordsAndPointers(t *testing.T) {
	built(t, wordsOf(2), 9, []uint64{0x0000001500000001, 0x0100000000000001, 0x0200000000000003})
	built(t, record(nil, api.Node{}), 9, []uint64{0x0001000000000000, 0})
	built(t, record([]uint64{8, 9}, nulls(3)...), 9, []uint64{0x0003000200000000, 8, 9, 0, 0, 0})
	built(t, listOf(nulls(2)...), 9, []uint64{0x0000001600000001, 0, 0})
	// The Kids lie behind the words, each whole ahead of the next one.
	built(t, record([]uint64{8}, record([]uint64{9}, wordsOf(1)), bytesOf(3)), 20, []uint64{
		0x0002000100000000, 8, 0x0001000100000004, 0x0000001a0000000d, // 1 and 3 words ahead
		9, 0x0000000d00000001, 0x0100000000000001, 0x0f0801,
	})
	built(t, listOf(listOf(record([]uint64{3})), api.Node{}, listOf(api.Node{}, record([]uint64{4}))), 20, []uint64{
		0x0000001e00000001, 0x0000000e00000009, 0, 0x0000001600000009, // both 2 words ahead
		0x0000000100000000, 3, 0, 0x0000000100000000, 4,
	})
	kids := slices.Repeat([]api.Node{record([]uint64{9})}, 100)
	a, err := Build(record(numbers(100), kids...), 4096)
	if len(a) != 1 || len(a[0]) != 301 || err != api.OK {
		t.Fatalf("Build of 100 words and 100 Kids = %v, %d", a, err)
	}
	if a[0][0] != 0x0064006400000000 || !slices.Equal(a[0][1:101], numbers(100)) {
		t.Error("the words are others")
	}
	for i := range 100 {
		// The 201st word on is laid of Kids; the pointer i is the word 101 + i.
		if a[0][101+i] != 0x0000000100000000|99<<2 || a[0][201+i] != 9 {
			t.Errorf("the pointer %d is %016x, the Kid %d", i, a[0][101+i], a[0][201+i])
		}
	}
}

// TestBuildByTheRoomThereIs has one tree after the other that just fits, or does not, by one word.
func TestBuildByTheRoomThereIs(t *testing.T) {
	one := func(n int) api.Node { return record(numbers(n)) }
	head := []uint64{0x0003000000000000, 0x0000000200000008, 0x0000000100000002}
	first := []uint64{0x0100000000000001, 0x0200000000000003}
	// Two words just fit behind four; then there is a new segment, in which three just fit behind a landing word, and two.
	built(t, record(nil, one(2), one(1), one(3)), 6,
		slices.Concat(head, []uint64{0x0000000100000012}, first),
		[]uint64{0x0000000100000000, 0x0100000000000001, 0x0000000300000000, 0x0100000000000001, 0x0200000000000003, 0x0300000000000005})
	// Four do not, and have a segment of their own.
	built(t, record(nil, one(2), one(1), one(4)), 6,
		slices.Concat(head, []uint64{0x0000000200000002}, first),
		[]uint64{0x0000000100000000, 0x0100000000000001},
		[]uint64{0x0000000400000000, 0x0100000000000001, 0x0200000000000003, 0x0300000000000005, 0x0400000000000007})
	// Three just fit near. With a size of one less they do not, and have a segment of their own: one word just fits behind them, but not with its landing word.
	built(t, record(nil, one(3), one(1)), 6,
		[]uint64{0x0002000000000000, 0x0000000300000004, 0x0000000100000002, 0x0100000000000001, 0x0200000000000003, 0x0300000000000005},
		[]uint64{0x0000000100000000, 0x0100000000000001})
	built(t, record(nil, one(3), one(1)), 5,
		[]uint64{0x0002000000000000, 0x0000000100000002, 0x0000000200000002},
		[]uint64{0x0000000300000000, 0x0100000000000001, 0x0200000000000003, 0x0300000000000005},
		[]uint64{0x0000000100000000, 0x0100000000000001})
}

// TestBuildLooksAtTheLastSegmentAlone has room in the first one, in which the pointers stand, and leaves it.
func TestBuildLooksAtTheLastSegmentAlone(t *testing.T) {
	built(t, record(nil, wordsOf(8), record([]uint64{9}), record([]uint64{10})), 9,
		[]uint64{0x0003000000000000, 0x0000000100000002, 0x0000000200000002, 0x0000000200000012},
		[]uint64{0x0000004500000001, 0x0100000000000001, 0x0200000000000003, 0x0300000000000005, 0x0400000000000007, 0x0500000000000009, 0x060000000000000b, 0x070000000000000d, 0x080000000000000f},
		[]uint64{0x0000000100000000, 9, 0x0000000100000000, 10})
}

// TestBuildOfKidsOfKids has pointers in segments behind the first one, near and far, and goes back to those of the first one.
func TestBuildOfKidsOfKids(t *testing.T) {
	tree := record(nil, record([]uint64{1}, wordsOf(1)), bytesOf(1))
	built(t, tree, 7, []uint64{0x0002000000000000, 0x0001000100000004, 0x0000000a0000000d, 1, 0x0000000d00000001, 0x0100000000000001, 1})
	built(t, tree, 6, []uint64{0x0002000000000000, 0x0001000100000004, 0x0000000100000002, 1, 0x0000000d00000001, 0x0100000000000001},
		[]uint64{0x0000000a00000001, 1})
	built(t, tree, 5, []uint64{0x0002000000000000, 0x0001000100000004, 0x0000000100000012, 1, 0x0000000100000002},
		[]uint64{0x0000000d00000001, 0x0100000000000001, 0x0000000a00000001, 1})
	built(t, tree, 4, []uint64{0x0002000000000000, 0x0000000100000002, 0x0000000200000002},
		[]uint64{0x0001000100000000, 1, 0x0000000d00000001, 0x0100000000000001},
		[]uint64{0x0000000a00000001, 1})
	built(t, tree, 3, []uint64{0x0002000000000000, 0x0000000100000002, 0x0000000300000002},
		[]uint64{0x0001000100000000, 1, 0x0000000200000002},
		[]uint64{0x0000000d00000001, 0x0100000000000001},
		[]uint64{0x0000000a00000001, 1})
	refused(t, tree, 2, api.ErrFull)
	refused(t, tree, 1, api.ErrFull)
}

func TestBuildWhereASegmentIsFull(t *testing.T) {
	// The root lies behind its pointer; a Kid, at the last, behind a landing word.
	for _, n := range []int{1, 2, 99, 4095} {
		sizesAre(t, wordsOf(n), n+1, n+1)
		refused(t, wordsOf(n), n, api.ErrFull)
		refused(t, wordsOf(n), 1, api.ErrFull)
	}
	sizesAre(t, record(nil, wordsOf(8)), 10, 10)
	sizesAre(t, record(nil, wordsOf(8)), 9, 2, 9)
	refused(t, record(nil, wordsOf(8)), 8, api.ErrFull)
	sizesAre(t, wordsOf(4095), 4096, 4096)
	refused(t, wordsOf(4096), 4096, api.ErrFull)
	refused(t, listOf(nulls(4096)...), 4096, api.ErrFull)
	sizesAre(t, listOf(nulls(4095)...), 4096, 4096)
	sizesAre(t, bytesOf(4096), 513, 513)
	refused(t, bytesOf(4096), 512, api.ErrFull)
	refused(t, record(nil, api.Node{}, record(nil, record(nil, wordsOf(9)))), 9, api.ErrFull)
	sizesAre(t, record(nil, api.Node{}, record(nil, record(nil, wordsOf(9)))), 10, 5, 10)
	// What is left behind one that there is no room for does not count.
	refused(t, listOf(wordsOf(9), record(nil), api.Node{}, wordsOf(1)), 9, api.ErrFull)
}

// sizesAre looks whether an arena is built, and has segments of these sizes.
func sizesAre(t *testing.T, tree api.Node, size int, want ...int) {
	t.Helper()
	a, err := Build(tree, size)
	var sizes []int
	for _, words := range a {
		sizes = append(sizes, len(words))
	}
	if !slices.Equal(sizes, want) || err != api.OK {
		t.Errorf("Build of Kind %d, Size %d, %d Kids, by size %d has sizes %v, %d, want %v", tree.Kind, tree.Size, len(tree.Kids), size, sizes, err, want)
	}
}

func TestBuildOfManySegments(t *testing.T) {
	// Each Kid needs a segment of its own.
	sizesAre(t, listOf(slices.Repeat([]api.Node{wordsOf(15)}, 15)...), 16, slices.Repeat([]int{16}, 16)...)
	refused(t, listOf(slices.Repeat([]api.Node{wordsOf(16)}, 16)...), 17, api.ErrFull)
	sizesAre(t, listOf(append(slices.Repeat([]api.Node{wordsOf(16)}, 15), record(nil))...), 17, slices.Repeat([]int{17}, 16)...)
	refused(t, listOf(append(slices.Repeat([]api.Node{wordsOf(16)}, 15), wordsOf(1))...), 17, api.ErrFull)
	// Two of them have one.
	sizesAre(t, record(nil, slices.Repeat([]api.Node{wordsOf(50)}, 31)...), 102, append([]int{82}, slices.Repeat([]int{102}, 15)...)...)
	refused(t, record(nil, slices.Repeat([]api.Node{wordsOf(50)}, 32)...), 102, api.ErrFull)
	// Each lies in the one ahead, and each has a segment.
	chain := func(n int) api.Node {
		tree := record([]uint64{7})
		for range n - 1 {
			tree = record(nil, tree)
		}
		return tree
	}
	for n := 1; n <= 16; n++ {
		sizesAre(t, chain(n), 2, slices.Repeat([]int{2}, n)...)
	}
	for n := 17; n <= 32; n++ {
		refused(t, chain(n), 2, api.ErrFull)
		sizesAre(t, chain(n), 33, n+1)
	}
}

func TestBuildOfManyWords(t *testing.T) {
	// 4096 words in all, and one more.
	sizesAre(t, record(nil, wordsOf(2000), wordsOf(2093)), 4096, 4096)
	refused(t, record(nil, wordsOf(2000), wordsOf(2094)), 4096, api.ErrFull)
	sizesAre(t, record(nil, wordsOf(2045), wordsOf(2047)), 2048, 2048, 2048)
	sizesAre(t, record(nil, wordsOf(2046), wordsOf(2046)), 2049, 2049, 2047)
	refused(t, record(nil, wordsOf(2046), wordsOf(2047)), 2049, api.ErrFull)
	refused(t, record(nil, wordsOf(2045), wordsOf(2047), wordsOf(1)), 2048, api.ErrFull)
	sizesAre(t, record(nil, wordsOf(2045), wordsOf(2046), wordsOf(0)), 2049, 2049, 2047)
	refused(t, record(nil, wordsOf(2045), wordsOf(2047), wordsOf(0)), 2049, api.ErrFull)
	sizesAre(t, listOf(slices.Repeat([]api.Node{wordsOf(255)}, 15)...), 256, append([]int{16}, slices.Repeat([]int{256}, 15)...)...)
	sizesAre(t, listOf(append(nulls(240), slices.Repeat([]api.Node{wordsOf(255)}, 15)...)...), 256, slices.Repeat([]int{256}, 16)...)
	refused(t, listOf(append(nulls(241), slices.Repeat([]api.Node{wordsOf(255)}, 15)...)...), 257, api.ErrFull)
	// A landing word counts as well.
	sizesAre(t, record(nil, wordsOf(3000), wordsOf(1091)), 3003, 3003, 1092)
	sizesAre(t, record(nil, wordsOf(3000), wordsOf(1092)), 3003, 3003, 1093)
	refused(t, record(nil, wordsOf(3000), wordsOf(1093)), 3003, api.ErrFull)
}

func TestBuildByASizeThatIsNone(t *testing.T) {
	for _, size := range append(ends(), 4096, 4097, 4098, 5000, 65536, 65537) {
		for _, tree := range []api.Node{{}, record(nil), listOf()} {
			if size >= 1 && size <= 4096 {
				sizesAre(t, tree, size, 1)
			} else {
				refused(t, tree, size, api.ErrArg)
			}
		}
	}
	for _, size := range []int{math.MinInt, -1, 0, 4097, math.MaxInt} {
		for _, tree := range trees() {
			refused(t, tree, size, api.ErrArg)
		}
	}
}

func TestBuildOfStrangeTrees(t *testing.T) {
	for _, tree := range strange() {
		for _, size := range []int{math.MinInt, -1, 0, 1, 2, 9, 4096, 4097, math.MaxInt} {
			refused(t, tree, size, api.ErrArg)
		}
		// There is no room for them either, but ErrArg is named first.
		refused(t, listOf(wordsOf(4096), tree), 9, api.ErrArg)
		refused(t, record(numbers(100), api.Node{}, record(nil, tree)), 2, api.ErrArg)
		refused(t, record(nil, tree), 4096, api.ErrArg)
	}
}

// spoil sets all of a tree to something else, also what lies behind its lists.
func spoil(tree api.Node) {
	spoilNumbers(tree.Words)
	spoilNumbers(tree.Bytes)
	for _, kid := range tree.Kids {
		spoil(kid)
	}
	kids := tree.Kids[:cap(tree.Kids)]
	for i := range kids {
		kids[i] = api.Node{Kind: -1, Size: -1, Words: []uint64{9}, Bytes: []byte{9}, Kids: nulls(9)}
	}
}

func spoilNumbers[E byte | uint64](l []E) {
	for i := range l[:cap(l)] {
		l[:cap(l)][i] ^= 0x55
	}
}

func TestWhatIsBuiltIsNewMemory(t *testing.T) {
	for _, size := range []int{8, 12, 40, 4096} {
		tree, own := sample(), text(sample())
		first, err := Build(tree, size)
		second, _ := Build(tree, size)
		want := text(second)
		if err != api.OK || text(first) != want {
			t.Fatalf("Build by size %d = %v, %d, and then %v", size, first, err, want)
		}
		for _, words := range first {
			spoilNumbers(words)
		}
		clear(first)
		if text(tree) != own {
			t.Error("what was built shares memory with what was handed in")
		}
		if text(second) != want {
			t.Error("what was built shares memory with what was built ahead of it")
		}
		spoil(tree)
		if text(second) != want {
			t.Error("what was handed in shares memory with what was built")
		}
	}
}

// TestSegmentsShareNothing spoils one segment, and what lies behind it, and looks at the others.
func TestSegmentsShareNothing(t *testing.T) {
	for _, size := range []int{8, 12, 40, 4096} {
		want, _ := Build(sample(), size)
		for seg := range want {
			a, _ := Build(sample(), size)
			spoilNumbers(append(a[seg], 1, 2, 3))
			spoilNumbers(a[seg])
			a[seg] = want[seg]
			if text(a) != text(want) {
				t.Errorf("segment %d by size %d shares memory with another one", seg, size)
			}
		}
	}
}

func TestWhatIsHandedInStays(t *testing.T) {
	for i, l := range [][]api.Node{trees(), strange()} {
		for j, tree := range l {
			own := text(tree)
			Right(tree)
			Need(tree)
			Same(tree, tree)
			Build(tree, 9)
			Build(tree, 4096)
			if text(tree) != own {
				t.Errorf("tree %d of list %d was changed", j, i)
			}
		}
	}
}

// TestNothingBehindALength looks at memory that is there, but no more one of the list.
func TestNothingBehindALength(t *testing.T) {
	far := record([]uint64{1, 2, 3}, bytesOf(9), bytesOf(3), record(numbers(101)))
	far.Bytes = []byte{1, 2}
	own := text(far)
	tree := far
	tree.Words, tree.Bytes, tree.Kids = far.Words[:1], far.Bytes[:0], far.Kids[:2]
	if !Right(tree) || Need(tree) != 3 {
		t.Errorf("Right = %v, Need = %d", Right(tree), Need(tree))
	}
	if same := record([]uint64{1}, bytesOf(9), bytesOf(3)); !Same(tree, same) || !Same(same, tree) {
		t.Error("Same counts what lies behind a length")
	}
	built(t, tree, 9, []uint64{0x0002000100000000, 1, 0x0000004a00000005, 0x0000001a00000009, 0x322b241d160f0801, 0x39, 0x0f0801})
	short := bytesOf(9)
	short.Bytes = short.Bytes[:3]
	built(t, short, 9, []uint64{0x0000001a00000001, 0x0f0801})
	if text(far) != own || short.Bytes[:9][8] != 0x39 {
		t.Error("what lies behind a length was changed")
	}
}

// TestWhatIsToldEndsWhereItIsLeft goes over what is laid of something, and leaves it at each place.
func TestWhatIsToldEndsWhereItIsLeft(t *testing.T) {
	c := content{Words: []uint64{1, 2}, Bytes: []byte{3, 0, 0, 0, 0, 0, 0, 0, 4}, Kids: nulls(2)}
	all := []uint64{1, 2, 3, 4, 0, 0}
	for most := 1; most <= len(all); most++ {
		var l []uint64
		for w := range c.words {
			if l = append(l, w); len(l) == most {
				break
			}
		}
		if !slices.Equal(l, all[:most]) {
			t.Errorf("the first %d words are %v", most, l)
		}
	}
}
