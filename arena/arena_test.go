package arena

import (
	"bytes"
	"encoding/binary"
	"math"
	"slices"
	"testing"

	"sculler/api"
)

// draws is a row of words without an order to be seen, the same each time.
func draws(seed uint64) func() uint64 {
	return func() uint64 {
		seed += 0x9e3779b97f4a7c15
		n := (seed ^ seed>>30) * 0xbf58476d1ce4e5b9
		n = (n ^ n>>27) * 0x94d049bb133111eb
		return n ^ n>>31
	}
}

// arenaOf has segments of these sizes, each of their words drawn.
func arenaOf(sizes ...int) api.Arena {
	draw := draws(uint64(len(sizes)))
	a := make(api.Arena, len(sizes))
	for seg, size := range sizes {
		a[seg] = make([]uint64, size)
		for at := range a[seg] {
			a[seg][at] = draw()
		}
	}
	return a
}

// laid are the words as bytes, by a package's help.
func laid(words ...uint64) []byte {
	b := []byte{}
	for _, w := range words {
		b = binary.LittleEndian.AppendUint64(b, w)
	}
	return b
}

// ends are numbers at and about the ends of an int, and about 0 and some powers of 2.
func ends() []int {
	l := []int{math.MinInt, math.MinInt + 1, math.MinInt + 2, math.MaxInt - 2, math.MaxInt - 1, math.MaxInt}
	for _, p := range []int{8, 12, 16, 31, 32, 53, 61, 62} {
		l = append(l, 1<<p, -1<<p)
	}
	for n := -3; n <= 9; n++ {
		l = append(l, n)
	}
	return l
}

// ones are n times size.
func ones(n, size int) []int {
	return slices.Repeat([]int{size}, n)
}

// fitting are sizes that Fit, some of them at their ends.
func fitting() [][]int {
	return [][]int{
		{1}, {2}, {9}, {4095}, {4096},
		{1, 0}, {1, 1}, {3, 2}, {2, 0, 1}, {1, 0, 0, 3}, {5, 0, 0}, {1, 2, 3, 4, 5},
		{1, 4095}, {4095, 1}, {4096, 0}, {1, 0, 4095}, {2048, 2048}, {1365, 1365, 1366},
		ones(15, 1), ones(16, 1), ones(16, 256), slices.Insert(ones(15, 0), 0, 1),
		slices.Insert(ones(15, 0), 0, 4096), append(ones(15, 256), 255),
	}
}

// unfitting are sizes that do not Fit, each for one reason.
func unfitting() [][]int {
	return [][]int{
		nil, {},
		{0}, {0, 1}, {0, 4096}, {0, 0}, ones(16, 0), {0, 1, 2},
		{-1}, {math.MinInt}, {-1, 5}, {5, -1}, {1, 0, -1}, {1, -1, 1}, {4096, -1}, {3, math.MinInt},
		{4097}, {4096, 1}, {1, 4096}, {1, 0, 4096}, {2048, 2049}, append(ones(15, 256), 257), ones(16, 257),
		{4097, -1}, {5000, -1000}, {1, 4096, -1}, {-1, 4097},
		ones(17, 1), slices.Insert(ones(16, 0), 0, 1), ones(17, 240), ones(18, 1), ones(100, 1), ones(100000, 1),
		{math.MaxInt}, {math.MaxInt, 1}, {1, math.MaxInt}, {math.MaxInt, math.MaxInt}, {2, math.MaxInt, math.MaxInt},
		{math.MaxInt, math.MaxInt, 3}, {1 << 62, 1 << 62, 1 << 62, 1 << 62}, {1, 1 << 62, 1 << 62, 1 << 62, 1 << 62},
		{1 << 61, 1 << 61, 1 << 61, 1 << 61, 1 << 61, 1 << 61, 1 << 61, 1 << 61, 5}, {1, math.MinInt, math.MinInt},
		{1 << 61}, {1, 1 << 61}, {1 << 32}, {1<<32 + 1}, {1, 1 << 32}, {1 << 53},
	}
}

// arenas are of fitting sizes, and others that may not be.
func arenas() []api.Arena {
	l := []api.Arena{
		nil, {}, {nil}, {{}}, {nil, nil}, {nil, {1}}, {{}, {1, 2}, {}}, {{0}}, {{0, 0}}, {{math.MaxUint64}},
		arenaOf(4097), arenaOf(0, 4097), arenaOf(2048, 2049), arenaOf(ones(17, 1)...), arenaOf(ones(40, 300)...),
	}
	for _, sizes := range fitting() {
		l = append(l, arenaOf(sizes...))
	}
	return l
}

func TestExample(t *testing.T) {
	if got := Place([]int{3, 2}, 1, 0); got != 3 {
		t.Errorf("Place of 1, 0 in sizes 3, 2 = %d, want 3", got)
	}
}

func TestSizes(t *testing.T) {
	for _, c := range []struct {
		a    api.Arena
		want []int
	}{
		{nil, nil},
		{api.Arena{}, nil},
		{api.Arena{nil}, []int{0}},
		{api.Arena{{}}, []int{0}},
		{api.Arena{{7}}, []int{1}},
		{api.Arena{{7, 8, 9}, {10, 11}}, []int{3, 2}},
		{api.Arena{{7, 8}, nil, {9}}, []int{2, 0, 1}},
		{api.Arena{nil, {}, {9, 9, 9, 9}, {}}, []int{0, 0, 4, 0}},
		{arenaOf(4097, 1), []int{4097, 1}},
		{arenaOf(ones(17, 2)...), ones(17, 2)},
	} {
		if got := Sizes(c.a); !slices.Equal(got, c.want) {
			t.Errorf("Sizes(%v) = %v, want %v", c.a, got, c.want)
		}
	}
}

func TestSizesOfManySegments(t *testing.T) {
	for _, want := range fitting() {
		if got := Sizes(arenaOf(want...)); !slices.Equal(got, want) {
			t.Errorf("Sizes = %v, want %v", got, want)
		}
	}
}

func TestSizesAreThoseOfTheLengths(t *testing.T) {
	a := api.Arena{make([]uint64, 2, 9), make([]uint64, 0, 9)}
	if got := Sizes(append(make(api.Arena, 0, 9), a...)); !slices.Equal(got, []int{2, 0}) {
		t.Errorf("Sizes = %v, want 2, 0", got)
	}
}

func TestWords(t *testing.T) {
	for _, a := range arenas() {
		want := 0
		for _, words := range a {
			for range words {
				want++
			}
		}
		if got := Words(a); got != want {
			t.Errorf("Words = %d, want %d of %v", got, want, Sizes(a))
		}
	}
}

func TestWordsByHand(t *testing.T) {
	for _, c := range []struct {
		a    api.Arena
		want int
	}{
		{nil, 0}, {api.Arena{}, 0}, {api.Arena{nil, {}}, 0}, {api.Arena{{5}}, 1},
		{api.Arena{{1, 2, 3}, {4, 5}}, 5}, {api.Arena{{1, 2}, nil, {3}}, 3},
		{arenaOf(4096), 4096}, {arenaOf(4096, 1), 4097}, {arenaOf(ones(17, 300)...), 5100},
	} {
		if got := Words(c.a); got != c.want {
			t.Errorf("Words = %d, want %d", got, c.want)
		}
	}
}

func TestFits(t *testing.T) {
	for _, sizes := range fitting() {
		if !Fits(sizes) {
			t.Errorf("Fits(%v) is false", sizes)
		}
	}
	for _, sizes := range unfitting() {
		if Fits(sizes) {
			t.Errorf("Fits(%v) is true", sizes)
		}
	}
}

// TestFitsAtEachEnd tries each number at each place of sizes that Fit: by what the chapter says of one that is 0 or more it does, if there is room.
func TestFitsAtEachEnd(t *testing.T) {
	for _, sizes := range fitting() {
		for i := range sizes {
			others := 0
			for j, size := range sizes {
				if j != i {
					others += size
				}
			}
			for _, n := range append(ends(), 4095-others, 4096-others, 4097-others) {
				least := 0
				if i == 0 {
					least = 1
				}
				with := slices.Clone(sizes)
				with[i] = n
				if got, want := Fits(with), n >= least && n <= 4096-others; got != want {
					t.Errorf("Fits(%v) = %v", with, got)
				}
			}
		}
	}
}

func TestRight(t *testing.T) {
	for _, sizes := range fitting() {
		if !Right(arenaOf(sizes...)) {
			t.Errorf("Right of an arena of sizes %v is false", sizes)
		}
	}
	for _, sizes := range unfitting() {
		if len(sizes) > 100 || slices.ContainsFunc(sizes, func(n int) bool { return n < 0 || n > 5000 }) {
			continue // no arena is of these
		}
		if Right(arenaOf(sizes...)) {
			t.Errorf("Right of an arena of sizes %v is true", sizes)
		}
	}
}

func TestRightByHand(t *testing.T) {
	for _, c := range []struct {
		a    api.Arena
		want bool
	}{
		{nil, false}, {api.Arena{}, false},
		{api.Arena{nil}, false}, {api.Arena{{}}, false}, {api.Arena{nil, {1}}, false}, {api.Arena{{}, {1}}, false},
		{api.Arena{{0}}, true}, {api.Arena{{0}, nil}, true}, {api.Arena{{0}, {}, {3}}, true},
		{arenaOf(ones(16, 1)...), true}, {arenaOf(ones(17, 1)...), false},
		{arenaOf(4096), true}, {arenaOf(4097), false}, {arenaOf(4096, 1), false}, {arenaOf(1, 4095), true},
	} {
		if got := Right(c.a); got != c.want {
			t.Errorf("Right of an arena of sizes %v = %v", Sizes(c.a), got)
		}
	}
}

// wordIs looks whether a word is there, and which.
func wordIs(t *testing.T, a api.Arena, seg, at int, want uint64) {
	t.Helper()
	if w, err := Word(a, seg, at); w != want || err != api.OK {
		t.Errorf("Word(%d, %d) = %x, %d, want %x, of sizes %v", seg, at, w, err, want, Sizes(a))
	}
}

// noWord looks whether a word is told not to be there, and 0 beside it.
func noWord(t *testing.T, a api.Arena, seg, at int) {
	t.Helper()
	if w, err := Word(a, seg, at); w != 0 || err != api.ErrBounds {
		t.Errorf("Word(%d, %d) = %x, %d, want 0 and ErrBounds, of sizes %v", seg, at, w, err, Sizes(a))
	}
}

func TestWord(t *testing.T) {
	a := api.Arena{{10, 11, 12}, nil, {20, math.MaxUint64}}
	wordIs(t, a, 0, 0, 10)
	wordIs(t, a, 0, 1, 11)
	wordIs(t, a, 0, 2, 12)
	wordIs(t, a, 2, 0, 20)
	wordIs(t, a, 2, 1, math.MaxUint64)
	for _, c := range [][2]int{{0, 3}, {0, -1}, {1, 0}, {1, -1}, {2, 2}, {3, 0}, {-1, 0}, {-1, -1}, {3, 3}} {
		noWord(t, a, c[0], c[1])
	}
}

func TestWordOfAnyArena(t *testing.T) {
	for _, a := range arenas() {
		for seg, words := range a {
			for at, w := range words {
				wordIs(t, a, seg, at, w)
			}
			noWord(t, a, seg, len(words))
			noWord(t, a, seg, -1)
		}
		noWord(t, a, len(a), 0)
		noWord(t, a, -1, 0)
	}
}

func TestWordAtTheEndsOfNumbers(t *testing.T) {
	for _, a := range []api.Arena{nil, {}, {{1}}, {{1, 2}, {}, {3, 4, 5}}} {
		for _, seg := range ends() {
			for _, at := range ends() {
				if seg < 0 || seg >= len(a) || at < 0 || at >= len(a[seg]) {
					noWord(t, a, seg, at)
				} else {
					wordIs(t, a, seg, at, a[seg][at])
				}
			}
		}
	}
}

// TestNothingBehindALength looks at memory that is there, but no more one of the list.
func TestNothingBehindALength(t *testing.T) {
	far := api.Arena{{1, 2, 3, 4}, {5, 6}, {7}}
	a := far[:2]
	a[0] = a[0][:2]
	noWord(t, a, 0, 2)
	noWord(t, a, 2, 0)
	if got := Bytes(a); !bytes.Equal(got, laid(1, 2, 5, 6)) {
		t.Errorf("Bytes = %x", got)
	}
	b := laid(1, 2, 3, 4)[:24]
	if _, err := Cut([]int{4}, b); err != api.ErrShort {
		t.Errorf("Cut of 4 words, one of them behind the length, = %d", err)
	}
	sizes := []int{3, 1}[:1]
	if Within(sizes, 1, 0, 1) || Place(sizes, 1, 0) != -1 {
		t.Error("a segment behind the length is there")
	}
	if _, err := Cut(sizes, b); err != api.OK {
		t.Errorf("Cut of 3 words = %d", err)
	}
	if !Same(a, api.Arena{{1, 2}, {5, 6}}) {
		t.Error("Same counts what lies behind a length")
	}
	if !bytes.Equal(b[:32], laid(1, 2, 3, 4)) || !equal(far[:3], api.Arena{{1, 2}, {5, 6}, {7}}) || !slices.Equal(far[0][:4], []uint64{1, 2, 3, 4}) {
		t.Error("what lies behind a length was changed")
	}
}

func TestWithin(t *testing.T) {
	for _, c := range []struct {
		sizes      []int
		seg, at, n int
		want       bool
	}{
		{[]int{3, 2}, 0, 0, 0, true}, {[]int{3, 2}, 0, 0, 1, true}, {[]int{3, 2}, 0, 0, 3, true}, {[]int{3, 2}, 0, 0, 4, false},
		{[]int{3, 2}, 0, 0, 5, false}, // of both segments, but no segment has them
		{[]int{3, 2}, 0, 2, 1, true}, {[]int{3, 2}, 0, 2, 2, false}, {[]int{3, 2}, 0, 3, 1, false},
		{[]int{3, 2}, 0, 3, 0, true}, {[]int{3, 2}, 0, 4, 0, false},
		{[]int{3, 2}, 1, 0, 2, true}, {[]int{3, 2}, 1, 0, 3, false}, {[]int{3, 2}, 1, 2, 0, true}, {[]int{3, 2}, 1, 3, 0, false},
		{[]int{3, 2}, 2, 0, 0, false}, {[]int{3, 2}, 2, 0, 1, false}, {[]int{3, 2}, -1, 0, 0, false}, {[]int{3, 2}, -1, 0, 1, false},
		{[]int{3, 2}, 0, -1, 0, false}, {[]int{3, 2}, 0, -1, 1, false}, {[]int{3, 2}, 0, -1, 2, false}, {[]int{3, 2}, 1, -3, 4, false},
		{[]int{3, 2}, 0, 0, -1, false}, {[]int{3, 2}, 0, 3, -1, false}, {[]int{3, 2}, 0, 4, -1, false}, {[]int{3, 2}, 0, 2, -2, false},
		{[]int{2, 0, 1}, 1, 0, 0, true}, {[]int{2, 0, 1}, 1, 0, 1, false}, {[]int{2, 0, 1}, 1, 1, 0, false}, {[]int{2, 0, 1}, 2, 0, 1, true},
		{nil, 0, 0, 0, false}, {[]int{}, 0, 0, 0, false}, {nil, -1, 0, 0, false},
		{[]int{0}, 0, 0, 0, true}, {[]int{0, 3}, 1, 0, 3, true}, // these do not Fit, but that is not asked
		{[]int{5000}, 0, 0, 5000, true}, {[]int{5000}, 0, 4999, 2, false}, {ones(17, 1), 16, 0, 1, true}, {ones(17, 1), 17, 0, 1, false},
		{[]int{-1}, 0, 0, 0, false}, {[]int{-1}, 0, -1, 0, false}, {[]int{-1, 2}, 1, 0, 2, true}, {[]int{math.MinInt}, 0, math.MinInt, 0, false},
		{[]int{math.MaxInt}, 0, 0, math.MaxInt, true}, {[]int{math.MaxInt}, 0, math.MaxInt, 0, true}, {[]int{math.MaxInt}, 0, 1, math.MaxInt, false},
		{[]int{math.MaxInt}, 0, math.MaxInt, math.MaxInt, false}, {[]int{3}, 0, math.MaxInt, math.MaxInt, false}, {[]int{3}, 0, 2, math.MaxInt, false},
		{[]int{math.MinInt}, 0, math.MaxInt, 0, false}, {[]int{math.MinInt}, 0, math.MaxInt, 1, false}, {[]int{-2}, 0, math.MaxInt, math.MaxInt, false},
	} {
		if got := Within(c.sizes, c.seg, c.at, c.n); got != c.want {
			t.Errorf("Within(%v, %d, %d, %d) = %v", c.sizes, c.seg, c.at, c.n, got)
		}
	}
}

// TestWithinByWalking goes from at on, word by word, as far as there are any.
func TestWithinByWalking(t *testing.T) {
	for _, sizes := range [][]int{nil, {0}, {1}, {3, 2}, {2, 0, 5}, {0, 0, 1}, {-2, 3, -1}} {
		for seg := -2; seg <= 4; seg++ {
			for at := -3; at <= 7; at++ {
				for n := -3; n <= 7; n++ {
					want := seg >= 0 && seg < len(sizes) && at >= 0 && n >= 0 && at <= sizes[seg]
					for i := at; want && i < at+n; i++ {
						want = i < sizes[seg]
					}
					if got := Within(sizes, seg, at, n); got != want {
						t.Errorf("Within(%v, %d, %d, %d) = %v", sizes, seg, at, n, got)
					}
				}
			}
		}
	}
}

func TestWithinAtTheEndsOfNumbers(t *testing.T) {
	for _, size := range ends() {
		for _, at := range ends() {
			for _, n := range ends() {
				// By numbers without a sign, in which no sum of two that are 0 or more goes round.
				want := size >= 0 && at >= 0 && n >= 0 && uint64(at)+uint64(n) <= uint64(size)
				if got := Within([]int{size}, 0, at, n); got != want {
					t.Errorf("Within(%d, 0, %d, %d) = %v", size, at, n, got)
				}
			}
		}
	}
	for _, seg := range ends() {
		if got := Within([]int{1, 1}, seg, 0, 1); got != (seg == 0 || seg == 1) {
			t.Errorf("Within(1, 1, %d, 0, 1) = %v", seg, got)
		}
	}
}

func TestPlace(t *testing.T) {
	for _, c := range []struct {
		sizes         []int
		seg, at, want int
	}{
		{[]int{3, 2}, 0, 0, 0}, {[]int{3, 2}, 0, 2, 2}, {[]int{3, 2}, 0, 3, -1},
		{[]int{3, 2}, 1, 0, 3}, {[]int{3, 2}, 1, 1, 4}, {[]int{3, 2}, 1, 2, -1}, {[]int{3, 2}, 2, 0, -1},
		{[]int{3, 2}, -1, 0, -1}, {[]int{3, 2}, 0, -1, -1}, {[]int{3, 2}, 1, -1, -1},
		{[]int{2, 0, 1}, 1, 0, -1}, {[]int{2, 0, 1}, 2, 0, 2}, {[]int{2, 0, 1}, 2, 1, -1},
		{[]int{4096}, 0, 4095, 4095}, {[]int{4096}, 0, 4096, -1}, {[]int{1, 0, 4095}, 2, 4094, 4095},
		{ones(16, 256), 15, 255, 4095}, {ones(16, 256), 15, 256, -1}, {ones(16, 256), 16, 0, -1},
	} {
		if got := Place(c.sizes, c.seg, c.at); got != c.want {
			t.Errorf("Place(%v, %d, %d) = %d, want %d", c.sizes, c.seg, c.at, got, c.want)
		}
	}
}

// TestPlaceCounts goes through all words, and asks in front of and behind each segment.
func TestPlaceCounts(t *testing.T) {
	for _, sizes := range fitting() {
		want := 0
		for seg, size := range sizes {
			for at := range size {
				if got := Place(sizes, seg, at); got != want {
					t.Fatalf("Place(%v, %d, %d) = %d, want %d", sizes, seg, at, got, want)
				}
				want++
			}
			for _, at := range ends() {
				if got := Place(sizes, seg, at); (at < 0 || at >= size) && got != -1 {
					t.Errorf("Place(%v, %d, %d) = %d", sizes, seg, at, got)
				}
			}
		}
		for _, seg := range append(ends(), len(sizes)) {
			if got := Place(sizes, seg, 0); (seg < 0 || seg >= len(sizes)) && got != -1 {
				t.Errorf("Place(%v, %d, 0) = %d", sizes, seg, got)
			}
		}
	}
}

func TestPlaceWhereSizesDoNotFit(t *testing.T) {
	for _, sizes := range unfitting() {
		for _, seg := range append(ends(), len(sizes)-1) {
			for _, at := range []int{math.MinInt, -1, 0, 1, 2, math.MaxInt} {
				if got := Place(sizes, seg, at); got != -1 {
					t.Errorf("Place(%v, %d, %d) = %d", sizes, seg, at, got)
				}
			}
		}
	}
}

func TestBytes(t *testing.T) {
	for _, c := range []struct {
		a    api.Arena
		want []byte
	}{
		{nil, nil}, {api.Arena{}, nil}, {api.Arena{nil}, nil}, {api.Arena{{}, nil}, nil},
		{api.Arena{{0x0807060504030201}}, []byte{1, 2, 3, 4, 5, 6, 7, 8}},
		{api.Arena{{1, 256}}, []byte{1, 0, 0, 0, 0, 0, 0, 0, 0, 1, 0, 0, 0, 0, 0, 0}},
		{api.Arena{{1}, {256}}, []byte{1, 0, 0, 0, 0, 0, 0, 0, 0, 1, 0, 0, 0, 0, 0, 0}},
		{api.Arena{{1 << 63}, nil, {2}}, []byte{0, 0, 0, 0, 0, 0, 0, 128, 2, 0, 0, 0, 0, 0, 0, 0}},
		{api.Arena{nil, {math.MaxUint64}}, []byte{255, 255, 255, 255, 255, 255, 255, 255}},
	} {
		if got := Bytes(c.a); !bytes.Equal(got, c.want) {
			t.Errorf("Bytes(%v) = %x, want %x", c.a, got, c.want)
		}
	}
}

func TestBytesOfAnyArena(t *testing.T) {
	for _, a := range arenas() {
		if got := Bytes(a); !bytes.Equal(got, laid(slices.Concat(a...)...)) {
			t.Errorf("Bytes of an arena of sizes %v are others", Sizes(a))
		}
	}
}

func TestCut(t *testing.T) {
	for _, c := range []struct {
		sizes []int
		want  api.Arena
	}{
		{[]int{3}, api.Arena{{1, 1 << 56, 0x0807060504030201}}},
		{[]int{1, 2}, api.Arena{{1}, {1 << 56, 0x0807060504030201}}},
		{[]int{2, 1}, api.Arena{{1, 1 << 56}, {0x0807060504030201}}},
		{[]int{1, 1, 1}, api.Arena{{1}, {1 << 56}, {0x0807060504030201}}},
		{[]int{2, 0, 1}, api.Arena{{1, 1 << 56}, nil, {0x0807060504030201}}},
		{[]int{1, 0, 0, 2, 0}, api.Arena{{1}, nil, nil, {1 << 56, 0x0807060504030201}, nil}},
	} {
		b := []byte{1, 0, 0, 0, 0, 0, 0, 0, 0, 0, 0, 0, 0, 0, 0, 1, 1, 2, 3, 4, 5, 6, 7, 8}
		if got, err := Cut(c.sizes, b); !equal(got, c.want) || err != api.OK {
			t.Errorf("Cut(%v) = %v, %d, want %v", c.sizes, got, err, c.want)
		}
	}
}

// equal holds arenas against each other by indices.
func equal(a, b api.Arena) bool {
	if len(a) != len(b) {
		return false
	}
	for seg := range a {
		if len(a[seg]) != len(b[seg]) {
			return false
		}
		for at := range a[seg] {
			if a[seg][at] != b[seg][at] {
				return false
			}
		}
	}
	return true
}

// TestThereAndBack cuts an arena's bytes, and lays what was cut.
func TestThereAndBack(t *testing.T) {
	for _, sizes := range fitting() {
		a := arenaOf(sizes...)
		b := Bytes(a)
		back, err := Cut(sizes, b)
		if !equal(back, a) || err != api.OK {
			t.Errorf("Cut(%v) of Bytes is another arena, or %d", sizes, err)
		}
		if !slices.Equal(Sizes(back), sizes) || !bytes.Equal(Bytes(back), b) || !Right(back) || !Same(back, a) {
			t.Errorf("what was cut by %v has other sizes, or bytes", sizes)
		}
	}
}

// TestPlaceIsThatOfTheBytes asks for each word of an arena, and for the bytes where it has its Place.
func TestPlaceIsThatOfTheBytes(t *testing.T) {
	for _, sizes := range fitting() {
		a := arenaOf(sizes...)
		b := Bytes(a)
		for seg, size := range sizes {
			for at := range size {
				place := Place(Sizes(a), seg, at)
				wordIs(t, a, seg, at, binary.LittleEndian.Uint64(b[8*place:]))
			}
		}
	}
}

// refused looks whether nothing is cut, and why.
func refused(t *testing.T, sizes []int, b []byte, want api.Errno) {
	t.Helper()
	if a, err := Cut(sizes, b); a != nil || err != want {
		t.Errorf("Cut(%v) of %d bytes = %v, %d, want nil and %d", sizes, len(b), a, err, want)
	}
}

func TestCutOfBytesOfAnotherLength(t *testing.T) {
	for _, sizes := range fitting() {
		long := 0
		for _, size := range sizes {
			long += 8 * size
		}
		for _, n := range []int{0, 1, long / 8, long - 8, long - 7, long - 1, long + 1, long + 7, long + 8, 2 * long, 8 * long} {
			refused(t, sizes, make([]byte, n), api.ErrShort)
		}
		refused(t, sizes, nil, api.ErrShort)
	}
}

// TestCutWhereSizesDoNotFit has bytes that are as many as the sizes ask for, and others: ErrArg comes first.
func TestCutWhereSizesDoNotFit(t *testing.T) {
	for _, sizes := range unfitting() {
		sum := 0
		for _, size := range sizes {
			sum += size // may go round, as one that is not looked after would
		}
		for _, n := range []int{0, 1, 7, 8, 16, 40, 100, 8 * 4096, 8 * sum} {
			if n >= 0 && n <= 1<<20 {
				refused(t, sizes, make([]byte, n), api.ErrArg)
			}
		}
		refused(t, sizes, nil, api.ErrArg)
	}
}

func TestSame(t *testing.T) {
	for _, c := range []struct {
		a, b api.Arena
		want bool
	}{
		{nil, nil, true}, {nil, api.Arena{}, true}, {api.Arena{nil}, api.Arena{{}}, true},
		{api.Arena{{1}, nil}, api.Arena{{1}, {}}, true}, {api.Arena{{1, 2}, {}, {3}}, api.Arena{{1, 2}, nil, {3}}, true},
		{nil, api.Arena{nil}, false}, {api.Arena{{}}, nil, false}, {nil, api.Arena{{0}}, false}, {api.Arena{{0}}, nil, false},
		{api.Arena{{1}}, api.Arena{{1}, nil}, false}, {api.Arena{{1}, nil}, api.Arena{{1}}, false},
		{api.Arena{{1, 2}}, api.Arena{{1}, {2}}, false}, {api.Arena{{1}, {2, 3}}, api.Arena{{1, 2}, {3}}, false},
		{api.Arena{{1}, nil, {2}}, api.Arena{{1}, {2}, nil}, false}, {api.Arena{nil, {1}}, api.Arena{{1}, nil}, false},
		{api.Arena{{1, 2}}, api.Arena{{1}}, false}, {api.Arena{{1}}, api.Arena{{1, 0}}, false}, {api.Arena{{0}}, api.Arena{{}}, false},
		{api.Arena{{1, 2}}, api.Arena{{2, 1}}, false}, {api.Arena{{1}, {2}}, api.Arena{{2}, {1}}, false},
		{api.Arena{{1}}, api.Arena{{1 << 32}}, false}, {api.Arena{{1 << 63}}, api.Arena{{0}}, false},
	} {
		if got := Same(c.a, c.b); got != c.want {
			t.Errorf("Same(%v, %v) = %v", c.a, c.b, got)
		}
	}
}

func TestSameOfAnyTwo(t *testing.T) {
	for i, a := range arenas() {
		for j, b := range arenas() {
			if got, want := Same(a, b), equal(a, b); got != want {
				t.Errorf("Same of arenas %d and %d, of sizes %v and %v, = %v", i, j, Sizes(a), Sizes(b), got)
			}
		}
	}
}

// TestSameSeesEachBit bends one bit of a copy.
func TestSameSeesEachBit(t *testing.T) {
	a := arenaOf(3, 0, 2, 1)
	for seg, words := range a {
		for at := range words {
			for bit := range 64 {
				bent := arenaOf(3, 0, 2, 1)
				bent[seg][at] ^= 1 << bit
				if Same(a, bent) || Same(bent, a) {
					t.Fatalf("bit %d of word %d of segment %d is not seen", bit, at, seg)
				}
			}
		}
	}
}

// TestWhatIsHandedInStays asks all calls, and looks at what they were asked with.
func TestWhatIsHandedInStays(t *testing.T) {
	for _, sizes := range append(fitting(), unfitting()...) {
		own := slices.Clone(sizes)
		b := bytes.Repeat([]byte{1, 2, 3}, 8*11)
		Fits(sizes)
		Within(sizes, 0, 0, 1)
		Place(sizes, 0, 0)
		Cut(sizes, b)
		if !slices.Equal(sizes, own) || !bytes.Equal(b, bytes.Repeat([]byte{1, 2, 3}, 8*11)) {
			t.Errorf("sizes %v, or bytes, were changed", own)
		}
	}
	for i, a := range arenas() {
		Right(a)
		Sizes(a)
		Words(a)
		Word(a, 0, 0)
		Bytes(a)
		Same(a, a)
		if own := arenas()[i]; !equal(a, own) {
			t.Errorf("an arena of sizes %v was changed", Sizes(own))
		}
	}
}

// TestCutIsNewMemory spoils what came out, and what was handed in, and cuts again.
func TestCutIsNewMemory(t *testing.T) {
	sizes := []int{2, 0, 3, 1}
	want := arenaOf(sizes...)
	b := Bytes(want)
	first, _ := Cut(sizes, b)
	second, _ := Cut(sizes, b)
	spoil(first...)
	first[1] = nil
	if !slices.Equal(sizes, []int{2, 0, 3, 1}) || !bytes.Equal(b, Bytes(want)) {
		t.Error("what was cut shares memory with what was handed in")
	}
	if !equal(second, want) {
		t.Error("what was cut shares memory with what was cut ahead of it")
	}
	spoil(b)
	spoil(sizes)
	if !equal(second, want) {
		t.Error("what was handed in shares memory with what was cut")
	}
}

// TestSegmentsShareNothing spoils one segment of what was cut, and what lies behind it, and looks at the others.
func TestSegmentsShareNothing(t *testing.T) {
	for _, sizes := range fitting() {
		want := arenaOf(sizes...)
		for seg := range sizes {
			a, _ := Cut(sizes, Bytes(want))
			spoil(append(a[seg], 1, 2, 3))
			spoil(a[seg][:cap(a[seg])])
			a[seg] = want[seg]
			if !equal(a, want) {
				t.Fatalf("segment %d of sizes %v shares memory with another one", seg, sizes)
			}
		}
	}
}

func TestSizesAndBytesAreNewMemory(t *testing.T) {
	a := arenaOf(2, 0, 3)
	sizes, others := Sizes(a), Sizes(a)
	b, c := Bytes(a), Bytes(a)
	spoil(sizes[:cap(sizes)])
	spoil(b[:cap(b)])
	if !equal(a, arenaOf(2, 0, 3)) {
		t.Error("what came out shares memory with the arena")
	}
	if !slices.Equal(others, []int{2, 0, 3}) || !bytes.Equal(c, laid(slices.Concat(a...)...)) {
		t.Error("what came out of two calls shares memory")
	}
	spoil(a...)
	if !slices.Equal(others, []int{2, 0, 3}) || !bytes.Equal(c, laid(slices.Concat(arenaOf(2, 0, 3)...)...)) {
		t.Error("the arena shares memory with what came out")
	}
}

// spoil sets each number of lists to another one.
func spoil[S ~[]E, E byte | int | uint64](lists ...S) {
	for _, l := range lists {
		for i := range l {
			l[i] = ^l[i]
		}
	}
}
