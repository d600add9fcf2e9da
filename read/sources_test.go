package read

import (
	"fmt"
	"math"
	"testing"

	"sculler/api"
)

// structWord, listWord, farWord, doubleWord are pointers' words, field by field.
func structWord(off, data, ptrs int) uint64 {
	return uint64(uint32(off)<<2) | uint64(data)<<32 | uint64(ptrs)<<48
}

func listWord(off, size, count int) uint64 {
	return uint64(uint32(off)<<2) | 1 | uint64(size)<<32 | uint64(count)<<35
}

func farWord(seg, at int) uint64 {
	return uint64(at)<<3 | 2 | uint64(seg)<<32
}

func doubleWord(seg, at int) uint64 {
	return farWord(seg, at) | 4
}

// capability is a word of the fourth kind, which no pointer has.
const capability = 3

// ones are so many words that are others than noughts, and no pointers.
func ones(n int) []uint64 {
	l := make([]uint64, n)
	for i := range l {
		l[i] = math.MaxUint64 - uint64(i)<<8
	}
	return l
}

// behind are words, and so many others behind them.
func behind(more int, words ...uint64) []uint64 {
	return append(words, ones(more)...)
}

// structAt and listAt are what a pointer leads to.
func structAt(seg, at, data, ptrs int) api.Obj {
	return api.Obj{Kind: api.Struct, Seg: seg, At: at, Data: data, Ptrs: ptrs}
}

func listAt(seg, at, size, count int) api.Obj {
	return api.Obj{Kind: api.List, Seg: seg, At: at, Size: size, Count: count}
}

// A place is a word's.
type place struct{ seg, at int }

// mine is a source of one's own, which has an arena's words. It notes which of them are read, and at the one that is the fails-th tells err with a word that nobody may take.
type mine struct {
	a     api.Arena
	read  []place
	fails int
	err   api.Errno
}

func (m *mine) Sizes() []int {
	var l []int
	for _, words := range m.a {
		l = append(l, len(words))
	}
	return l
}

func (m *mine) Word(seg, at int) (uint64, api.Errno) {
	m.read = append(m.read, place{seg, at})
	if len(m.read) == m.fails {
		return structWord(0, 1, 0), m.err
	}
	if seg < 0 || seg >= len(m.a) || at < 0 || at >= len(m.a[seg]) {
		return structWord(0, 1, 0), api.ErrBounds
	}
	return m.a[seg][at], api.OK
}

// told is a source that has one word at each place that there is a number for, and tells any sizes.
type told struct {
	word  uint64
	sizes []int
}

func (s told) Sizes() []int {
	return s.sizes
}

func (s told) Word(seg, at int) (uint64, api.Errno) {
	return s.word, api.OK
}

// broken panics where it is asked for its sizes, or for the word that is the fails-th.
type broken struct {
	mine
	sizeless bool
}

func (s *broken) Sizes() []int {
	if s.sizeless {
		panic("no sizes")
	}
	return s.mine.Sizes()
}

func (s *broken) Word(seg, at int) (uint64, api.Errno) {
	if w, err := s.mine.Word(seg, at); len(s.read) != s.fails {
		return w, err
	}
	panic("no word")
}

// followed looks what a word leads to, of an arena as a whole and of a source of one's own.
func followed(t *testing.T, a api.Arena, seg, at int, want api.Obj, wantErr api.Errno) {
	t.Helper()
	for _, s := range []Source{Whole(a), &mine{a: a}} {
		if o, err := Follow(s, seg, at); o != want || err != wantErr {
			t.Errorf("Follow of the word %d of segment %d of %x, as %T = %+v, %d, want %+v, %d", at, seg, a, s, o, err, want, wantErr)
		}
	}
}

// walked looks what a path leads to, of an arena, of it as a whole, and of a source of one's own.
func walked(t *testing.T, a api.Arena, p api.Path, cost int, want api.Value, wantErr api.Errno) {
	t.Helper()
	if v, err := Of(a, p, cost); v != want || err != wantErr {
		t.Errorf("Of %x, %v, cost %d = %+v, %d, want %+v, %d", a, p, cost, v, err, want, wantErr)
	}
	for _, s := range []Source{Whole(a), &mine{a: a}} {
		if v, err := Walk(s, p, cost); v != want || err != wantErr {
			t.Errorf("Walk of %x, as %T, %v, cost %d = %+v, %d, want %+v, %d", a, s, p, cost, v, err, want, wantErr)
		}
	}
}

// path is one of a last number and steps.
func path(at int, steps ...int) api.Path {
	return api.Path{Steps: steps, At: at}
}

// text is all of something.
func text(x any) string {
	return fmt.Sprintf("%x", x)
}

// ends are numbers at and about the ends of an int, and about 0 and some powers of 2.
func ends() []int {
	var l []int
	for _, n := range []int{math.MinInt, math.MinInt + 1, -1 << 53, -1 << 32, -1 << 31, -1 << 29, -2, -1} {
		l = append(l, n, ^n)
	}
	return append(l, 1<<29, 1<<32, 2, 3, 1<<53)
}

// draws is a row of numbers without an order to be seen, the same each time.
func draws(seed uint64) func(below int) int {
	return func(below int) int {
		seed += 0x9e3779b97f4a7c15
		n := (seed ^ seed>>30) * 0xbf58476d1ce4e5b9
		n = (n ^ n>>27) * 0x94d049bb133111eb
		return int((n ^ n>>31) % uint64(below))
	}
}
