package build

import (
	"encoding/binary"
	"slices"
	"testing"

	"sculler/api"
)

// An item is something of a tree: whose Kid it is, and which one, as numbers in a row; and where it is laid.
type item struct {
	api.Node
	in, kid int
	need    int
	seg, at int
	far     bool
}

// items are all of a tree in the order in which they are laid.
func items(tree api.Node) []item {
	l := []item{}
	var add func(tree api.Node, in, kid int)
	add = func(tree api.Node, in, kid int) {
		me := len(l)
		l = append(l, item{Node: tree, in: in, kid: kid, need: len(contents(tree))})
		for i, k := range tree.Kids {
			add(k, me, i)
		}
	}
	add(tree, -1, 0)
	return l
}

// contents are the words of something itself, its pointers as noughts.
func contents(tree api.Node) []uint64 {
	l := slices.Clone(tree.Words)
	b := slices.Clone(tree.Bytes)
	for len(b)%8 > 0 {
		b = append(b, 0)
	}
	for i := 0; i < len(b); i += 8 {
		l = append(l, binary.LittleEndian.Uint64(b[i:]))
	}
	return append(l, make([]uint64, len(tree.Kids))...)
}

// pointer is which word an item's pointer is.
func pointer(l []item, x item) (seg, at int) {
	if x.in < 0 {
		return 0, 0
	}
	p := l[x.in]
	return p.seg, p.at + p.need - len(p.Kids) + x.kid
}

// placed tells each item where it is laid, and how long the segments are.
func placed(l []item, size int) []int {
	sizes := []int{1}
	for i, x := range l {
		if x.need == 0 {
			continue
		}
		seg, _ := pointer(l, x)
		last := len(sizes) - 1
		near := seg == last && sizes[last]+x.need <= size
		landed := seg != last && sizes[last]+1+x.need <= size
		if !near && !landed {
			sizes = append(sizes, 0)
			last++
		}
		if !near {
			sizes[last]++
		}
		l[i].seg, l[i].at, l[i].far = last, sizes[last], !near
		sizes[last] += x.need
	}
	return sizes
}

// modelled is the arena of a tree, as the chapter has it, and why there is none: first all is placed, then all is written.
func modelled(tree api.Node, size int) (api.Arena, string) {
	l := items(tree)
	sizes := placed(l, size)
	all := 0
	a := api.Arena{}
	for _, n := range sizes {
		all += n
		a = append(a, make([]uint64, n))
	}
	switch {
	case slices.Max(sizes) > size:
		return nil, "a segment is too long"
	case len(sizes) > 16:
		return nil, "there are too many segments"
	case all > 4096:
		return nil, "there are too many words"
	}
	for _, x := range l {
		copy(a[x.seg][x.at:], contents(x.Node))
	}
	for _, x := range l {
		seg, at := pointer(l, x)
		switch {
		case x.Kind == api.Null:
			a[seg][at] = 0
		case x.need == 0:
			a[seg][at] = written(x.Node, -x.Kind%2) // -1 of a struct, 0 of a list
		case x.far:
			a[seg][at] = 2 + uint64(x.at-1)*8 + uint64(x.seg)<<32
			a[x.seg][x.at-1] = written(x.Node, 0)
		default:
			a[seg][at] = written(x.Node, x.at-at-1)
		}
	}
	return a, ""
}

// written is a near pointer's word, field by field.
func written(tree api.Node, off int) uint64 {
	w := uint64(uint32(off) << 2)
	if tree.Kind == api.Struct {
		return w | uint64(len(tree.Words))<<32 | uint64(len(tree.Kids))<<48
	}
	return w | 1 | uint64(tree.Size)<<32 | uint64(max(len(tree.Words), len(tree.Bytes), len(tree.Kids)))<<35
}

// readBack is the tree to which the word at of a segment leads, by its bits.
func readBack(a api.Arena, seg, at int) api.Node {
	w := a[seg][at]
	if w&3 == 2 {
		seg, at = int(w>>32), int(uint32(w)>>3)
		w = a[seg][at]
	}
	if w == 0 {
		return api.Node{}
	}
	from := a[seg][at+1+int(int32(w))>>2:]
	if w&3 == 0 {
		data, ptrs := int(w>>32&0xffff), int(w>>48)
		return api.Node{Kind: api.Struct, Words: slices.Clone(from[:data]), Kids: kidsAt(a, seg, len(a[seg])-len(from)+data, ptrs)}
	}
	size, count := int(w>>32&7), int(w>>35)
	tree := api.Node{Kind: api.List, Size: size}
	switch size {
	case api.OfBytes:
		for i := range count {
			tree.Bytes = append(tree.Bytes, byte(from[i/8]>>(i%8*8)))
		}
	case api.OfWords:
		tree.Words = slices.Clone(from[:count])
	case api.OfPtrs:
		tree.Kids = kidsAt(a, seg, len(a[seg])-len(from), count)
	}
	return tree
}

func kidsAt(a api.Arena, seg, at, n int) []api.Node {
	var kids []api.Node
	for i := range n {
		kids = append(kids, readBack(a, seg, at+i))
	}
	return kids
}

// asModelled builds a tree, and looks whether that is what the model has, and is read as it was; it tells how that ended.
func asModelled(t *testing.T, tree api.Node, size int) string {
	t.Helper()
	want, why := modelled(tree, size)
	if why != "" {
		refused(t, tree, size, api.ErrFull)
		return why
	}
	a, err := Build(tree, size)
	if !slices.EqualFunc(a, want, slices.Equal) || err != api.OK {
		t.Fatalf("Build of %v by size %d = %v, %d, want %v", tree, size, a, err, want)
	}
	if back := readBack(a, 0, 0); text(back) != text(tree) || !Same(back, tree) {
		t.Fatalf("Build of %v by size %d is read as %v", tree, size, back)
	}
	switch {
	case len(a) == 1:
		return "one segment"
	case len(a) == 16:
		return "all segments"
	}
	return "some segments"
}

// drawn is a tree of which each list has fewer than most things.
func drawn(draw func(int) int, most, depth int) api.Node {
	kids := func() []api.Node {
		var l []api.Node
		for range draw(most) {
			l = append(l, drawn(draw, most, depth-1))
		}
		return l
	}
	kind := draw(10)
	switch {
	case kind == 0:
		return api.Node{}
	case kind == 1:
		return bytesOf(draw(8 * most))
	case kind == 2:
		return wordsOf(draw(most))
	case depth == 0:
		return record(numbers(draw(most)))
	case kind < 6:
		return listOf(kids()...)
	}
	return record(numbers(draw(most)), kids()...)
}

// great is a tree of about as many words as there may be.
func great(draw func(int) int) api.Node {
	var kids []api.Node
	for range 12 + draw(8) {
		kids = append(kids, record(numbers(draw(50)), drawn(draw, 6, 2), wordsOf(100+draw(200)), bytesOf(draw(200)), api.Node{}))
	}
	return listOf(kids...)
}

func TestBuildOfDrawnTrees(t *testing.T) {
	many := map[string]int{}
	draw := draws(8)
	for i := range 4000 {
		tree := drawn(draw, 2+draw(8), draw(5))
		if i%10 == 0 {
			tree = great(draw)
		}
		need := 0
		for _, x := range items(tree) {
			need += x.need
		}
		// Sizes by which one segment, or some, or too many of them are needed, and any.
		for _, size := range []int{1 + draw(40), 1 + need/(1+draw(16)), 1 + need*(7+draw(5))/100, 1 + need, 1 + draw(4096)} {
			many[asModelled(t, tree, min(size, 4096))]++
		}
	}
	for _, end := range []string{"one segment", "some segments", "all segments", "a segment is too long", "there are too many segments", "there are too many words"} {
		if many[end] < 50 {
			t.Errorf("%s: only %d times", end, many[end])
		}
	}
}

// TestBuildByEachSize takes all sizes that some trees may be built by.
func TestBuildByEachSize(t *testing.T) {
	for _, tree := range append(trees(), sample(), listOf(sample(), sample(), sample())) {
		if len(tree.Kids) > 200 {
			continue
		}
		for size := 1; size <= 130; size++ {
			asModelled(t, tree, size)
		}
		for _, size := range []int{510, 511, 512, 513, 514, 4088, 4089, 4090, 4094, 4095, 4096} {
			asModelled(t, tree, size)
		}
	}
}

// TestBuildOfKidsOfAnyNeed has two, or three, of each Need, so that each of them just fits once, and once does not.
func TestBuildOfKidsOfAnyNeed(t *testing.T) {
	for first := range 14 {
		for second := range 14 {
			for size := 1; size <= 20; size++ {
				asModelled(t, record(nil, wordsOf(first), wordsOf(second)), size)
				asModelled(t, listOf(record(nil, wordsOf(first)), bytesOf(8*second), wordsOf(first)), size)
				asModelled(t, record([]uint64{1}, record(nil, wordsOf(first), record(numbers(second), wordsOf(2))), wordsOf(3)), size)
			}
		}
	}
}
