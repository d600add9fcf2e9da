package ptr

import (
	"fmt"
	"math"
	"strconv"
	"testing"

	"sculler/api"
)

// draws is a row of words without an order to be seen, the same each time.
func draws(seed uint64) func() uint64 {
	return func() uint64 {
		seed += 0x9e3779b97f4a7c15
		n := (seed ^ seed>>30) * 0xbf58476d1ce4e5b9
		n = (n ^ n>>27) * 0x94d049bb133111eb
		return n ^ n>>31
	}
}

// words are 0, single bits, rows of bits from both ends, and drawn ones, each with all four lowest pairs.
func words() []uint64 {
	l := []uint64{0, math.MaxUint64, 0x0102030405060708, 0xaaaaaaaaaaaaaaaa, 0x5555555555555555}
	for p := range 64 {
		l = append(l, 1<<p, 1<<p-1, math.MaxUint64<<p, ^uint64(1<<p))
	}
	draw := draws(1)
	for range 20000 {
		l = append(l, draw())
	}
	var all []uint64
	for _, w := range l {
		for low := range uint64(4) {
			all = append(all, w&^3|low)
		}
	}
	return all
}

// digits are the chapter's BITS from f to t, read off the word as it is written.
func digits(t *testing.T, w uint64, from, to int) int {
	text := fmt.Sprintf("%064b", w)
	n, err := strconv.ParseInt(text[63-to:64-from], 2, 64)
	if err != nil {
		t.Fatal(err)
	}
	return int(n)
}

// decoded is what the chapter says of a word, by its digits.
func decoded(t *testing.T, w uint64) (api.Ptr, api.Errno) {
	near := digits(t, w, 2, 31)
	if near >= 1<<29 {
		near -= 1 << 30
	}
	switch {
	case w == 0:
		return api.Ptr{}, api.OK
	case w%4 == 0:
		return api.Ptr{Kind: 1, Off: near, Data: digits(t, w, 32, 47), Ptrs: digits(t, w, 48, 63)}, api.OK
	case w%4 == 1:
		return api.Ptr{Kind: 2, Off: near, Size: digits(t, w, 32, 34), Count: digits(t, w, 35, 63)}, api.OK
	case w%4 == 2:
		return api.Ptr{Kind: 3, Off: digits(t, w, 3, 31), Seg: digits(t, w, 32, 63), Double: digits(t, w, 2, 2) == 1}, api.OK
	}
	return api.Ptr{}, api.ErrKind
}

// A pair is a word and what it points to, both ways.
type pair struct {
	w uint64
	p api.Ptr
}

const (
	least   = -(1 << 29) // of an Off that has a sign
	most    = 1<<29 - 1  // of any Off, and of a Count
	mostSeg = 1<<32 - 1
)

// pairs are words by hand: of each kind, with each of its fields at both ends.
func pairs() []pair {
	return []pair{
		{0, api.Ptr{}},

		{0x00010000fffffffc, api.Ptr{Kind: api.Struct, Off: -1, Ptrs: 1}},
		{0x00000000fffffffc, api.Ptr{Kind: api.Struct, Off: -1}},
		{0x0000000000000004, api.Ptr{Kind: api.Struct, Off: 1}},
		{0x000000007ffffffc, api.Ptr{Kind: api.Struct, Off: most}},
		{0x0000000080000000, api.Ptr{Kind: api.Struct, Off: least}},
		{0x0000000100000000, api.Ptr{Kind: api.Struct, Data: 1}},
		{0x0000ffff00000000, api.Ptr{Kind: api.Struct, Data: 65535}},
		{0x0001000000000000, api.Ptr{Kind: api.Struct, Ptrs: 1}},
		{0xffff000000000000, api.Ptr{Kind: api.Struct, Ptrs: 65535}},
		{0x0003000200000014, api.Ptr{Kind: api.Struct, Off: 5, Data: 2, Ptrs: 3}},
		{0xffffffff7ffffffc, api.Ptr{Kind: api.Struct, Off: most, Data: 65535, Ptrs: 65535}},
		{0xffffffff80000000, api.Ptr{Kind: api.Struct, Off: least, Data: 65535, Ptrs: 65535}},
		{0xfffffffffffffffc, api.Ptr{Kind: api.Struct, Off: -1, Data: 65535, Ptrs: 65535}},

		{0x0000000000000001, api.Ptr{Kind: api.List}},
		{0x0000000000000005, api.Ptr{Kind: api.List, Off: 1}},
		{0x00000000fffffffd, api.Ptr{Kind: api.List, Off: -1}},
		{0x000000007ffffffd, api.Ptr{Kind: api.List, Off: most}},
		{0x0000000080000001, api.Ptr{Kind: api.List, Off: least}},
		{0x0000000100000001, api.Ptr{Kind: api.List, Size: 1}},
		{0x0000000200000001, api.Ptr{Kind: api.List, Size: api.OfBytes}},
		{0x0000000300000001, api.Ptr{Kind: api.List, Size: 3}},
		{0x0000000400000001, api.Ptr{Kind: api.List, Size: 4}},
		{0x0000000500000001, api.Ptr{Kind: api.List, Size: api.OfWords}},
		{0x0000000600000001, api.Ptr{Kind: api.List, Size: api.OfPtrs}},
		{0x0000000700000001, api.Ptr{Kind: api.List, Size: 7}},
		{0x0000000800000001, api.Ptr{Kind: api.List, Count: 1}},
		{0x0000000a00000001, api.Ptr{Kind: api.List, Size: api.OfBytes, Count: 1}},
		{0xfffffff800000001, api.Ptr{Kind: api.List, Count: most}},
		{0xfffffffd00000009, api.Ptr{Kind: api.List, Off: 2, Size: api.OfWords, Count: most}},
		{0xffffffff80000001, api.Ptr{Kind: api.List, Off: least, Size: 7, Count: most}},
		{0xfffffffffffffffd, api.Ptr{Kind: api.List, Off: -1, Size: 7, Count: most}},

		{0x0000000000000002, api.Ptr{Kind: api.Far}},
		{0x0000000000000006, api.Ptr{Kind: api.Far, Double: true}},
		{0x000000000000000a, api.Ptr{Kind: api.Far, Off: 1}},
		{0x000000000000000e, api.Ptr{Kind: api.Far, Off: 1, Double: true}},
		{0x0000000080000002, api.Ptr{Kind: api.Far, Off: 1 << 28}},
		{0x00000000fffffffa, api.Ptr{Kind: api.Far, Off: most}},
		{0x00000000fffffffe, api.Ptr{Kind: api.Far, Off: most, Double: true}},
		{0x0000000100000002, api.Ptr{Kind: api.Far, Seg: 1}},
		{0x8000000000000002, api.Ptr{Kind: api.Far, Seg: 1 << 31}},
		{0xffffffff00000002, api.Ptr{Kind: api.Far, Seg: mostSeg}},
		{0x0000000f0000001e, api.Ptr{Kind: api.Far, Off: 3, Seg: 15, Double: true}},
		{0xfffffffffffffffa, api.Ptr{Kind: api.Far, Off: most, Seg: mostSeg}},
		{0xfffffffffffffffe, api.Ptr{Kind: api.Far, Off: most, Seg: mostSeg, Double: true}},
	}
}

func TestExample(t *testing.T) {
	want := api.Ptr{Kind: api.Struct, Off: -1, Data: 0, Ptrs: 1}
	if p, err := Decode(0x00010000fffffffc); p != want || err != api.OK {
		t.Errorf("Decode of the example = %+v, %d", p, err)
	}
}

func TestDecode(t *testing.T) {
	for _, c := range pairs() {
		if p, err := Decode(c.w); p != c.p || err != api.OK {
			t.Errorf("Decode(%016x) = %+v, %d, want %+v", c.w, p, err, c.p)
		}
	}
}

func TestDecodeOfNoKind(t *testing.T) {
	for _, w := range []uint64{3, 7, 0xffffffff, 0x00010000ffffffff, 0xfffffffffffffffb, math.MaxUint64, 1<<63 | 3} {
		if p, err := Decode(w); p != (api.Ptr{}) || err != api.ErrKind {
			t.Errorf("Decode(%016x) = %+v, %d, want ErrKind and noughts", w, p, err)
		}
	}
}

func TestDecodeByDigits(t *testing.T) {
	for _, w := range words() {
		want, wantErr := decoded(t, w)
		if p, err := Decode(w); p != want || err != wantErr {
			t.Fatalf("Decode(%016x) = %+v, %d, want %+v, %d", w, p, err, want, wantErr)
		}
	}
}

func TestEncode(t *testing.T) {
	for _, c := range pairs() {
		if w, err := Encode(c.p); w != c.w || err != api.OK {
			t.Errorf("Encode(%+v) = %016x, %d, want %016x", c.p, w, err, c.w)
		}
	}
}

func TestThereAndBack(t *testing.T) {
	for _, w := range words() {
		p, err := Decode(w)
		if w%4 == 3 {
			continue // of which nothing is told
		}
		if back, backErr := Encode(p); err != api.OK || back != w || backErr != api.OK {
			t.Fatalf("Encode(%+v) = %016x, %d, and is the Decode of %016x", p, back, backErr, w)
		}
	}
}

// refused looks whether there is no word for a pointer.
func refused(t *testing.T, p api.Ptr) {
	t.Helper()
	if w, err := Encode(p); w != 0 || err != api.ErrArg {
		t.Errorf("Encode(%+v) = %016x, %d, want 0 and ErrArg", p, w, err)
	}
}

func TestEncodeWithoutAWord(t *testing.T) {
	for _, p := range []api.Ptr{
		{Kind: api.Struct},
		{Double: true},
		{Kind: api.Null, Off: 1},
		{Kind: api.Struct, Off: most + 1},
		{Kind: api.Struct, Off: least - 1},
		{Kind: api.Struct, Off: 1 << 30},
		{Kind: api.Struct, Off: 1<<30 - 1},
		{Kind: api.Struct, Data: 65536},
		{Kind: api.Struct, Ptrs: 65536},
		{Kind: api.Struct, Off: 1, Data: -1},
		{Kind: api.Struct, Off: 1, Ptrs: -1},
		{Kind: api.Struct, Off: 1, Double: true},
		{Kind: api.List, Off: most + 1},
		{Kind: api.List, Off: least - 1},
		{Kind: api.List, Size: 8},
		{Kind: api.List, Size: -1},
		{Kind: api.List, Size: api.OfWords, Count: most + 1},
		{Kind: api.List, Size: api.OfWords, Count: -1},
		{Kind: api.List, Double: true},
		{Kind: api.Far, Off: most + 1},
		{Kind: api.Far, Off: -1},
		{Kind: api.Far, Off: least},
		{Kind: api.Far, Seg: mostSeg + 1},
		{Kind: api.Far, Seg: -1},
		{Kind: api.Far, Data: 1},
		{Kind: api.Far, Size: 1, Double: true},
	} {
		refused(t, p)
	}
}

func TestEncodeOfOtherKinds(t *testing.T) {
	for _, kind := range []int{math.MinInt, -4, -3, -2, -1, 4, 5, 6, 7, 8, 1 << 32, 1<<32 + 1, math.MaxInt} {
		for _, c := range pairs() {
			c.p.Kind = kind
			refused(t, c.p)
		}
	}
}

// A limit is a field, and between which ends it may be in each kind.
type limit struct {
	name string
	of   func(p *api.Ptr) *int
	ends map[int][2]int
}

// limits are of all fields that are numbers, but the kind: a field that a kind has not may be 0 alone.
func limits() []limit {
	return []limit{
		{"Off", func(p *api.Ptr) *int { return &p.Off }, map[int][2]int{api.Struct: {least, most}, api.List: {least, most}, api.Far: {0, most}}},
		{"Data", func(p *api.Ptr) *int { return &p.Data }, map[int][2]int{api.Struct: {0, 65535}}},
		{"Ptrs", func(p *api.Ptr) *int { return &p.Ptrs }, map[int][2]int{api.Struct: {0, 65535}}},
		{"Size", func(p *api.Ptr) *int { return &p.Size }, map[int][2]int{api.List: {0, 7}}},
		{"Count", func(p *api.Ptr) *int { return &p.Count }, map[int][2]int{api.List: {0, most}}},
		{"Seg", func(p *api.Ptr) *int { return &p.Seg }, map[int][2]int{api.Far: {0, mostSeg}}},
	}
}

// TestEachFieldEnds sets one field of a pointer that has a word to many numbers: just those within its ends have a word, of which they are the Decode.
func TestEachFieldEnds(t *testing.T) {
	numbers := []int{math.MinInt, math.MinInt + 1, math.MaxInt - 1, math.MaxInt}
	for n := -9; n <= 9; n++ {
		numbers = append(numbers, n)
	}
	for p := 4; p < 63; p++ {
		for d := -1; d <= 1; d++ {
			numbers = append(numbers, 1<<p+d, -(1<<p)+d)
		}
	}
	for _, c := range pairs() {
		for _, l := range limits() {
			for _, n := range numbers {
				p := c.p
				*l.of(&p) = n
				ends := l.ends[p.Kind]
				if n < ends[0] || n > ends[1] || p == (api.Ptr{Kind: api.Struct}) {
					refused(t, p)
					continue
				}
				w, err := Encode(p)
				if back, backErr := decoded(t, w); err != api.OK || back != p || backErr != api.OK {
					t.Errorf("%s %d: Encode(%+v) = %016x, %d, which says %+v", l.name, n, p, w, err, back)
				}
			}
		}
	}
}

func TestDoubleIsOfFarAlone(t *testing.T) {
	for _, c := range pairs() {
		c.p.Double = true
		if c.p.Kind != api.Far {
			refused(t, c.p)
		} else if w, err := Encode(c.p); w != c.w|4 || err != api.OK {
			t.Errorf("Encode(%+v) = %016x, %d, want %016x", c.p, w, err, c.w|4)
		}
	}
}

func TestWords(t *testing.T) {
	for _, c := range []struct {
		p    api.Ptr
		want int
	}{
		{api.Ptr{}, 0},
		{api.Ptr{Kind: api.Null, Off: 3, Data: 4, Ptrs: 5, Size: 6, Count: 7, Seg: 8, Double: true}, 0},

		{api.Ptr{Kind: api.Struct}, 0},
		{api.Ptr{Kind: api.Struct, Off: -1}, 0},
		{api.Ptr{Kind: api.Struct, Off: 9, Data: 2, Ptrs: 3}, 5},
		{api.Ptr{Kind: api.Struct, Off: least, Data: 2}, 2},
		{api.Ptr{Kind: api.Struct, Off: most, Ptrs: 3}, 3},
		{api.Ptr{Kind: api.Struct, Data: 65535, Ptrs: 65535}, 131070},

		{api.Ptr{Kind: api.List, Size: api.OfBytes}, 0},
		{api.Ptr{Kind: api.List, Size: api.OfBytes, Count: 1}, 1},
		{api.Ptr{Kind: api.List, Size: api.OfBytes, Count: 7}, 1},
		{api.Ptr{Kind: api.List, Size: api.OfBytes, Count: 8}, 1},
		{api.Ptr{Kind: api.List, Size: api.OfBytes, Count: 9}, 2},
		{api.Ptr{Kind: api.List, Size: api.OfBytes, Count: 16}, 2},
		{api.Ptr{Kind: api.List, Size: api.OfBytes, Count: 17}, 3},
		{api.Ptr{Kind: api.List, Size: api.OfBytes, Count: most - 7}, 1<<26 - 1},
		{api.Ptr{Kind: api.List, Size: api.OfBytes, Count: most}, 1 << 26},
		{api.Ptr{Kind: api.List, Size: api.OfWords}, 0},
		{api.Ptr{Kind: api.List, Size: api.OfWords, Count: 1, Off: -7}, 1},
		{api.Ptr{Kind: api.List, Size: api.OfWords, Count: 9}, 9},
		{api.Ptr{Kind: api.List, Size: api.OfWords, Count: most}, most},
		{api.Ptr{Kind: api.List, Size: api.OfPtrs}, 0},
		{api.Ptr{Kind: api.List, Size: api.OfPtrs, Count: 1, Off: 7}, 1},
		{api.Ptr{Kind: api.List, Size: api.OfPtrs, Count: 9}, 9},
		{api.Ptr{Kind: api.List, Size: api.OfPtrs, Count: most}, most},

		{api.Ptr{Kind: api.Far}, 1},
		{api.Ptr{Kind: api.Far, Off: most, Seg: mostSeg}, 1},
		{api.Ptr{Kind: api.Far, Double: true}, 2},
		{api.Ptr{Kind: api.Far, Off: 5, Seg: 3, Double: true}, 2},
	} {
		if n, err := Words(c.p); n != c.want || err != api.OK {
			t.Errorf("Words(%+v) = %d, %d, want %d", c.p, n, err, c.want)
		}
	}
}

// without looks whether Words tells ErrKind of a pointer, and 0 beside it.
func without(t *testing.T, p api.Ptr) {
	t.Helper()
	if n, err := Words(p); n != 0 || err != api.ErrKind {
		t.Errorf("Words(%+v) = %d, %d, want 0 and ErrKind", p, n, err)
	}
}

func TestWordsOfOtherSizes(t *testing.T) {
	for _, size := range []int{0, 1, 3, 4, 7} {
		for _, count := range []int{0, 1, 8, 9, most} {
			without(t, api.Ptr{Kind: api.List, Size: size, Count: count})
			without(t, api.Ptr{Kind: api.List, Size: size, Count: count, Off: -3})
		}
	}
}

func TestWordsOfOtherKinds(t *testing.T) {
	for _, kind := range []int{math.MinInt, -4, -3, -2, -1, 4, 5, 6, 7, 1 << 32, 1<<32 + 1, math.MaxInt} {
		without(t, api.Ptr{Kind: kind})
		without(t, api.Ptr{Kind: kind, Data: 2, Ptrs: 3})
		without(t, api.Ptr{Kind: kind, Size: api.OfWords, Count: 4})
		without(t, api.Ptr{Kind: kind, Double: true})
	}
}

// TestWordsEnds asks for no more than an end, of pointers that have no word.
func TestWordsEnds(t *testing.T) {
	numbers := []int{math.MinInt, -1, 0, 1, math.MaxInt}
	for kind := api.Null; kind <= api.Far; kind++ {
		for size := -1; size <= 8; size++ {
			for _, a := range numbers {
				for _, b := range numbers {
					_, _ = Words(api.Ptr{Kind: kind, Off: a, Data: a, Ptrs: b, Size: size, Count: a, Seg: b})
				}
			}
		}
	}
}
