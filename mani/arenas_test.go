package mani

import (
	"encoding/binary"
	"fmt"
	"hash/crc32"
	"math"
	"math/rand/v2"
	"slices"
	"testing"

	"sculler/api"
)

// ends are numbers at the ends of an int, and at and about 0 and some powers of 2.
func ends() []int {
	l := []int{math.MinInt, math.MinInt + 1, math.MaxInt - 1, math.MaxInt}
	for _, p := range []int{2, 3, 6, 9, 12, 16, 31, 32, 53, 57, 58, 59, 60, 61, 62} {
		l = append(l, 1<<p-1, 1<<p, 1<<p+1, -1<<p-1, -1<<p, -1<<p+1)
	}
	for n := -9; n <= 9; n++ {
		l = append(l, n)
	}
	return l
}

// ones are n times size.
func ones(n, size int) []int {
	return slices.Repeat([]int{size}, n)
}

// fitting are sizes that an arena may have: each number of segments, and the chunks' ends.
func fitting() [][]int {
	l := [][]int{
		{1, 0}, {3, 2}, {2, 0, 1}, {1, 0, 0, 3}, {5, 0, 0}, {1, 2, 3, 4, 5}, {7, 1}, {7, 2}, {8, 8}, {9, 7}, {1, 0, 7}, {1, 0, 8}, {1, 0, 0, 0, 8}, {4, 4, 1},
		{4096, 0}, {1, 4095}, {4095, 1}, {2048, 2048}, {1365, 1365, 1366}, ones(16, 256), append(ones(15, 256), 255), append([]int{4096}, ones(15, 0)...),
	}
	for n := 1; n <= 16; n++ {
		l = append(l, ones(n, 1), ones(n, 9), append([]int{1}, ones(n-1, 0)...))
	}
	for _, n := range []int{2, 7, 8, 9, 10, 15, 16, 17, 23, 24, 25, 63, 64, 65, 4087, 4088, 4089, 4095, 4096} {
		l = append(l, []int{n})
	}
	return l
}

// unfitting are sizes that none may have; of some of them a sum goes round.
func unfitting() [][]int {
	return [][]int{
		nil, {}, {0}, {0, 1}, {0, 4096}, {0, 0, 0, 0, 5}, ones(16, 0),
		{-1}, {-1, 5}, {5, -1}, {1, 0, -1}, {8, -8, 8}, {4096, -1}, {1, 2, 3, 4, -1}, {math.MinInt}, {1, math.MinInt}, {1, math.MinInt, math.MinInt},
		{4097}, {4096, 1}, {1, 4096}, {2048, 2049}, append(ones(15, 256), 257), {4097, -1}, {5000, -1000}, {65537}, {1 << 16}, {1<<16 + 1},
		ones(17, 1), append([]int{1}, ones(16, 0)...), ones(18, 1), ones(20, 1), ones(1000, 1), ones(17, 240),
		{math.MaxInt}, {math.MaxInt, 1}, {1, math.MaxInt}, {math.MaxInt, math.MaxInt}, {2, math.MaxInt, math.MaxInt}, {math.MaxInt, math.MaxInt, 9},
		{1 << 62, 1 << 62, 1 << 62, 1 << 62}, {1, 1 << 62, 1 << 62, 1 << 62, 1 << 62}, {1 << 61}, {1<<61 + 1}, {1 << 60}, {1<<60 + 8}, {1, 1 << 58}, {1 << 32}, {1<<32 + 1}, {1 << 53},
	}
}

// arenaOf has segments of these sizes, each of their words drawn.
func arenaOf(sizes ...int) api.Arena {
	r := rand.New(rand.NewPCG(12, uint64(len(sizes))))
	a := make(api.Arena, len(sizes))
	for seg, size := range sizes {
		a[seg] = make([]uint64, size)
		for at := range a[seg] {
			a[seg][at] = r.Uint64()
		}
	}
	return a
}

// arenas are those that may be; wrongArenas may not.
func arenas() []api.Arena {
	l := []api.Arena{{{0}}, {{0}, nil}, {{0}, {0}}, {{0, 0}}, {{math.MaxUint64}}, {{7, 8}, {}, {9}}, {{1}, nil, {}, nil, {2}}}
	for _, sizes := range fitting() {
		l = append(l, arenaOf(sizes...))
	}
	return l
}

func wrongArenas() []api.Arena {
	return []api.Arena{
		nil, {}, {nil}, {{}}, {nil, {1}}, {{}, {1, 2, 3, 4, 5, 6, 7, 8, 9}}, {nil, nil, nil, nil, {1}},
		arenaOf(4097), arenaOf(4096, 1), arenaOf(1, 4096), arenaOf(ones(17, 1)...), arenaOf(append([]int{1}, ones(16, 0)...)...), arenaOf(ones(40, 300)...),
	}
}

// sessions are some of all.
func sessions() []uint64 {
	return []uint64{0, 1, 0x0102030405060708, 1 << 32, 1 << 63, math.MaxUint64}
}

// laid are words as bytes, by a package's help.
func laid(words ...uint64) []byte {
	b := []byte{}
	for _, w := range words {
		b = binary.LittleEndian.AppendUint64(b, w)
	}
	return b
}

// whole is all of an arena as bytes.
func whole(a api.Arena) []byte {
	return laid(slices.Concat(a...)...)
}

// sumOf is the sum of these by a package's help, in the chapter's order.
func sumOf(session uint64, a api.Arena) uint32 {
	b := laid(session)
	for _, words := range a {
		b = binary.LittleEndian.AppendUint16(b, uint16(len(words)))
	}
	return crc32.Checksum(append(b, whole(a)...), crc32.MakeTable(crc32.Castagnoli))
}

// manifest is that of an arena that may be.
func manifest(t *testing.T, session uint64, a api.Arena) api.Manifest {
	t.Helper()
	m, err := Of(session, a)
	if err != api.OK {
		t.Fatalf("Of(%d, %.200s): %d", session, text(a), err)
	}
	return m
}

// of is a manifest of these sizes alone.
func of(sizes ...int) api.Manifest {
	return api.Manifest{Session: 5, Sizes: sizes, Sum: 6}
}

// copied is an arena in memory of its own.
func copied(a api.Arena) api.Arena {
	own := slices.Clone(a)
	for seg, words := range own {
		own[seg] = slices.Clone(words)
	}
	return own
}

// text is all of something; lists that are nil and lists that are empty have the same.
func text(x any) string {
	return fmt.Sprint(x)
}
