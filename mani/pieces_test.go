package mani

import (
	"bytes"
	"math"
	"math/rand/v2"
	"slices"
	"testing"

	"sculler/api"
	"sculler/arena"
)

func TestExample(t *testing.T) {
	m := manifest(t, 3, arenaOf(9))
	if Chunks(m) != 2 || Size(m, 0) != 64 || Size(m, 1) != 8 {
		t.Errorf("Chunks %d, Sizes %d and %d, want 2, 64 and 8", Chunks(m), Size(m, 0), Size(m, 1))
	}
}

func TestHowMany(t *testing.T) {
	for _, c := range []struct {
		sizes                []int
		words, chunks, pages int
	}{
		{[]int{1}, 1, 1, 1}, {[]int{7}, 7, 1, 1}, {[]int{8}, 8, 1, 1}, {[]int{9}, 9, 2, 1}, {[]int{15}, 15, 2, 1}, {[]int{16}, 16, 2, 1}, {[]int{17}, 17, 3, 1},
		{[]int{4087}, 4087, 511, 1}, {[]int{4088}, 4088, 511, 1}, {[]int{4089}, 4089, 512, 1}, {[]int{4095}, 4095, 512, 1}, {[]int{4096}, 4096, 512, 1},
		{[]int{7, 1}, 8, 1, 1}, {[]int{7, 2}, 9, 2, 1}, {[]int{1, 0}, 1, 1, 1}, {[]int{1, 0, 0, 0, 8}, 9, 2, 2}, {[]int{2, 3, 4}, 9, 2, 1},
		{ones(4, 1), 4, 1, 1}, {ones(5, 1), 5, 1, 2}, {ones(8, 1), 8, 1, 2}, {ones(9, 1), 9, 2, 3}, {ones(12, 1), 12, 2, 3}, {ones(13, 1), 13, 2, 4},
		{ones(15, 1), 15, 2, 4}, {ones(16, 1), 16, 2, 4}, {ones(16, 256), 4096, 512, 4}, {append([]int{1}, ones(15, 0)...), 1, 1, 4}, {append([]int{4096}, ones(15, 0)...), 4096, 512, 4},
	} {
		for _, m := range []api.Manifest{of(c.sizes...), {Sizes: c.sizes}} {
			if Words(m) != c.words || Chunks(m) != c.chunks || Pages(m) != c.pages {
				t.Errorf("of %v: %d Words, %d Chunks, %d Pages, want %d, %d, %d", c.sizes, Words(m), Chunks(m), Pages(m), c.words, c.chunks, c.pages)
			}
		}
	}
}

// TestHowManyGoesByTheBytes has as many chunks, and pages, as there are when one at a time is taken.
func TestHowManyGoesByTheBytes(t *testing.T) {
	for _, a := range arenas() {
		m := manifest(t, 8, a)
		b := whole(a)
		chunks, pages := 0, 0
		for from := 0; from < len(b); from += 64 {
			chunks++
		}
		for from := 0; from < len(a); from += 4 {
			pages++
		}
		if Words(m) != len(b)/8 || Chunks(m) != chunks || Pages(m) != pages {
			t.Errorf("of %v: %d Words, %d Chunks, %d Pages, want %d, %d, %d", m.Sizes, Words(m), Chunks(m), Pages(m), len(b)/8, chunks, pages)
		}
		if Chunks(m) < 1 || Chunks(m) > api.MaxChunk || Pages(m) < 1 || Pages(m) > 4 {
			t.Errorf("of %v: %d Chunks, %d Pages", m.Sizes, Chunks(m), Pages(m))
		}
	}
}

// TestChunksAreTheWhole has all of them, one behind the other.
func TestChunksAreTheWhole(t *testing.T) {
	for _, a := range arenas() {
		m := manifest(t, 8, a)
		var all []byte
		for i := range Chunks(m) {
			b := Chunk(a, i)
			if len(b) != Size(m, i) || len(b) < 1 || len(b) > 64 || i < Chunks(m)-1 && len(b) < 64 {
				t.Errorf("of %v: chunk %d has %d bytes, Size is %d", m.Sizes, i, len(b), Size(m, i))
			}
			all = append(all, b...)
		}
		if !bytes.Equal(all, whole(a)) || !bytes.Equal(all, arena.Bytes(a)) {
			t.Errorf("of %v: the chunks are not the whole", m.Sizes)
		}
	}
}

func TestChunksByHand(t *testing.T) {
	a := api.Arena{{1, 2, 3}, nil, {4, 5, 6, 7}, {8, 9}}
	if b := Chunk(a, 0); !bytes.Equal(b, laid(1, 2, 3, 4, 5, 6, 7, 8)) {
		t.Errorf("Chunk 0 = %x", b)
	}
	if b := Chunk(a, 1); !bytes.Equal(b, []byte{9, 0, 0, 0, 0, 0, 0, 0}) {
		t.Errorf("Chunk 1 = %x", b)
	}
	if b := Chunk(api.Arena{{0xfedcba9876543210}}, 0); !bytes.Equal(b, []byte{0x10, 0x32, 0x54, 0x76, 0x98, 0xba, 0xdc, 0xfe}) {
		t.Errorf("Chunk of one word = %x", b)
	}
}

// outside are numbers of no chunk, or page, where there are so many.
func outside(many int) []int {
	l := append(ends(), many, many+1, many+7, 8*many, 64*many, -many, many-math.MaxInt)
	return slices.DeleteFunc(l, func(i int) bool { return i >= 0 && i < many })
}

func TestNoChunk(t *testing.T) {
	for _, a := range arenas() {
		m := manifest(t, 8, a)
		for _, i := range outside(Chunks(m)) {
			if Size(m, i) != 0 || len(Chunk(a, i)) != 0 {
				t.Errorf("of %v: chunk %d has a Size of %d, %d bytes", m.Sizes, i, Size(m, i), len(Chunk(a, i)))
			}
		}
	}
	for _, a := range wrongArenas() {
		for _, i := range append(ends(), 0, 1, 2) {
			if b := Chunk(a, i); len(b) != 0 {
				t.Errorf("of %.200s: Chunk %d has %d bytes", text(a), i, len(b))
			}
		}
	}
}

func TestSize(t *testing.T) {
	for _, c := range []struct {
		m       api.Manifest
		i, want int
	}{
		{of(1), 0, 8}, {of(1), 1, 0}, {of(7), 0, 56}, {of(8), 0, 64}, {of(8), 1, 0}, {of(9), 0, 64}, {of(9), 1, 8}, {of(9), 2, 0}, {of(15), 1, 56}, {of(16), 1, 64}, {of(16), 2, 0},
		{of(4096), 511, 64}, {of(4096), 512, 0}, {of(4095), 511, 56}, {of(4089), 511, 8}, {of(4088), 510, 64}, {of(4088), 511, 0}, {of(3, 0, 4, 2), 1, 8}, {of(3, 0, 4, 2), 0, 64},
		{of(ones(16, 256)...), 511, 64}, {of(9), -1, 0}, {of(9), math.MinInt, 0}, {of(9), math.MaxInt, 0}, {of(9), 1 << 58, 0}, {of(9), -1 << 58, 0}, {of(9), 1<<58 + 1, 0},
	} {
		if got := Size(c.m, c.i); got != c.want {
			t.Errorf("Size(%v, %d) = %d, want %d", c.m.Sizes, c.i, got, c.want)
		}
	}
}

func TestSizesAreAllBytes(t *testing.T) {
	for _, sizes := range fitting() {
		m, all := of(sizes...), 0
		for i := range api.MaxChunk + 1 {
			all += Size(m, i)
		}
		if all != 8*Words(m) {
			t.Errorf("of %v: the chunks have %d bytes, want %d", sizes, all, 8*Words(m))
		}
	}
}

// TestPagesAreAllSizes has all of them, one behind the other, and joined.
func TestPagesAreAllSizes(t *testing.T) {
	for _, a := range arenas() {
		m := manifest(t, 8, a)
		var all []int
		var pages [][]int
		for i := range Pages(m) {
			page := Page(m, i)
			if len(page) < 1 || len(page) > 4 || i < Pages(m)-1 && len(page) < 4 {
				t.Errorf("of %v: page %d is %v", m.Sizes, i, page)
			}
			all, pages = append(all, page...), append(pages, page)
		}
		if !slices.Equal(all, arena.Sizes(a)) {
			t.Errorf("of %v: the pages are %v", m.Sizes, all)
		}
		if sizes, ok := Join(pages); !ok || !slices.Equal(sizes, m.Sizes) {
			t.Errorf("of %v: joined they are %v, %v", m.Sizes, sizes, ok)
		}
	}
}

func TestPage(t *testing.T) {
	sixteen := []int{1, 2, 3, 4, 5, 6, 7, 8, 9, 10, 11, 12, 13, 14, 15, 16}
	for _, c := range []struct {
		m    api.Manifest
		want [][]int
	}{
		{of(7), [][]int{{7}}},
		{of(7, 0), [][]int{{7, 0}}},
		{of(1, 2, 3, 4), [][]int{{1, 2, 3, 4}}},
		{of(1, 0, 0, 0, 0), [][]int{{1, 0, 0, 0}, {0}}},
		{of(1, 2, 3, 4, 5), [][]int{{1, 2, 3, 4}, {5}}},
		{of(sixteen[:8]...), [][]int{{1, 2, 3, 4}, {5, 6, 7, 8}}},
		{of(sixteen[:9]...), [][]int{{1, 2, 3, 4}, {5, 6, 7, 8}, {9}}},
		{of(sixteen[:15]...), [][]int{{1, 2, 3, 4}, {5, 6, 7, 8}, {9, 10, 11, 12}, {13, 14, 15}}},
		{of(sixteen...), [][]int{{1, 2, 3, 4}, {5, 6, 7, 8}, {9, 10, 11, 12}, {13, 14, 15, 16}}},
	} {
		if Pages(c.m) != len(c.want) {
			t.Errorf("of %v: %d Pages, want %d", c.m.Sizes, Pages(c.m), len(c.want))
		}
		for i, want := range c.want {
			if got := Page(c.m, i); !slices.Equal(got, want) {
				t.Errorf("Page(%v, %d) = %v, want %v", c.m.Sizes, i, got, want)
			}
		}
		for _, i := range outside(len(c.want)) {
			if got := Page(c.m, i); len(got) != 0 {
				t.Errorf("Page(%v, %d) = %v, want none", c.m.Sizes, i, got)
			}
		}
	}
}

// TestOfWhatIsNotRight has noughts, also where a sum of the sizes, or of their bytes, would go round.
func TestOfWhatIsNotRight(t *testing.T) {
	for _, sizes := range unfitting() {
		m := of(sizes...)
		if Words(m) != 0 || Chunks(m) != 0 || Pages(m) != 0 {
			t.Errorf("of %.200s: %d Words, %d Chunks, %d Pages", text(sizes), Words(m), Chunks(m), Pages(m))
		}
		for _, i := range append(ends(), 10, 16, 100, 511, 512) {
			if Size(m, i) != 0 || len(Page(m, i)) != 0 {
				t.Errorf("of %.200s: chunk %d has a Size of %d, page %d is %v", text(sizes), i, Size(m, i), i, Page(m, i))
			}
		}
	}
}

func TestJoin(t *testing.T) {
	for _, c := range []struct {
		pages [][]int
		want  []int
	}{
		{[][]int{{1}}, []int{1}},
		{[][]int{{1, 0}}, []int{1, 0}},
		{[][]int{{4096, 0, 0}}, []int{4096, 0, 0}},
		{[][]int{{1, 2, 3, 4}}, []int{1, 2, 3, 4}},
		{[][]int{{1, 2, 3, 4}, {5}}, []int{1, 2, 3, 4, 5}},
		{[][]int{{1, 0, 0, 0}, {0}}, []int{1, 0, 0, 0, 0}},
		{[][]int{{1, 0, 0, 0}, {0, 0, 0, 4095}}, []int{1, 0, 0, 0, 0, 0, 0, 4095}},
		{[][]int{{1, 2, 3, 4}, {5, 6, 7, 8}, {9, 10}}, []int{1, 2, 3, 4, 5, 6, 7, 8, 9, 10}},
		{[][]int{ones(4, 256), ones(4, 256), ones(4, 256), ones(3, 256)}, ones(15, 256)},
		{[][]int{ones(4, 256), ones(4, 256), ones(4, 256), ones(4, 256)}, ones(16, 256)},
	} {
		if got, ok := Join(c.pages); !ok || !slices.Equal(got, c.want) {
			t.Errorf("Join(%v) = %v, %v, want %v", c.pages, got, ok, c.want)
		}
	}
}

func TestJoinOfWhatAreNoPages(t *testing.T) {
	for _, pages := range [][][]int{
		nil, {}, {nil}, {{}}, {nil, nil}, {{1}, {}}, {{1, 2, 3, 4}, {}}, {{1, 2, 3, 4}, nil}, {{}, {1}}, {nil, {1, 2, 3, 4}}, {{1, 2, 3, 4}, {}, {5}}, {{1, 2, 3, 4}, {5, 6, 7, 8}, {}},
		{{1, 2, 3, 4, 5}}, {{1, 2, 3, 4, 5}, {6}}, {{1, 2, 3, 4}, {5, 6, 7, 8, 9}}, {{1, 2, 3, 4, 5}, {6, 7, 8}}, {ones(8, 1)}, {ones(16, 1)},
		{{1}, {2}}, {{1, 2, 3}, {4}}, {{1, 2, 3}, {4, 5, 6, 7}}, {{1, 2, 3, 4}, {5}, {6}}, {{1, 2, 3, 4}, {5, 6, 7}, {8, 9, 10, 11}}, {{1}, {2, 3, 4, 5}}, {{1, 2}, {3, 4}},
		{{0}}, {{0, 1}}, {{0, 1, 2, 3}, {4}}, {{-1}}, {{1, -1}}, {{1, 2, 3, 4}, {-1}}, {{4097}}, {{4096, 1}}, {{4096, 0, 0, 0}, {1}}, {{1, 0, 0, 0}, {0, 0, 0, 4096}},
		{ones(4, 256), ones(4, 256), ones(4, 256), {256, 256, 256, 257}}, {{math.MaxInt}}, {{math.MaxInt, math.MaxInt, 3}}, {{1, math.MaxInt, math.MaxInt, 1}}, {{1, 2, 3, math.MinInt}, {5}},
		{{1 << 62, 1 << 62, 1 << 62, 1 << 62}}, {{1, 1 << 62, 1 << 62, 1 << 62}, {1 << 62}},
		{ones(4, 1), ones(4, 1), ones(4, 1), ones(4, 1), {1}}, {ones(4, 1), ones(4, 1), ones(4, 1), ones(4, 1), ones(4, 1)}, {{1, 0, 0, 0}, ones(4, 0), ones(4, 0), ones(4, 0), {0}},
		slices.Repeat([][]int{ones(4, 0)}, 100), slices.Repeat([][]int{ones(4, 1)}, 100000), {ones(100000, 1)}, append(slices.Repeat([][]int{nil}, 100000), []int{1}),
	} {
		if got, ok := Join(pages); ok || len(got) != 0 {
			t.Errorf("Join(%.200s) = %.200s, %v, want none, false", text(pages), text(got), ok)
		}
	}
}

// joined is what the chapter says of Join, page by page.
func joined(pages [][]int) ([]int, bool) {
	var all []int
	for i, page := range pages {
		last := i == len(pages)-1
		if !last && len(page) != 4 || last && (len(page) < 1 || len(page) > 4) {
			return nil, false
		}
		all = append(all, page...)
	}
	words := 0
	for _, size := range all {
		if size < 0 || size > 4096 {
			return nil, false
		}
		words += size
	}
	if len(all) < 1 || len(all) > 16 || all[0] < 1 || words > 4096 {
		return nil, false
	}
	return all, true
}

func TestJoinOfDrawnPages(t *testing.T) {
	r := rand.New(rand.NewPCG(12, 1))
	many := map[bool]int{}
	for range 20000 {
		pages := make([][]int, r.IntN(6))
		for i := range pages {
			long := 4
			if r.IntN(5) == 0 || i == len(pages)-1 {
				long = r.IntN(6)
			}
			for range long {
				pages[i] = append(pages[i], []int{0, 1, 2, 300, 1000, -1, 4096}[min(r.IntN(40)/6, r.IntN(40))])
			}
		}
		got, ok := Join(pages)
		want, is := joined(pages)
		if ok != is || !slices.Equal(got, want) {
			t.Fatalf("Join(%v) = %v, %v, want %v, %v", pages, got, ok, want, is)
		}
		many[ok]++
	}
	if many[true] < 500 || many[false] < 500 {
		t.Errorf("%d that are joined, %d that are not", many[true], many[false])
	}
}
