package read

import (
	"fmt"
	"slices"
	"testing"

	"sculler/api"
	"sculler/arena"
)

// A model goes over an arena as the chapter has it, by the bits of its words. Where that ends, it panics with the error.
type model struct {
	*mine
	left int
}

func must(ok bool, err api.Errno) {
	if !ok {
		panic(err)
	}
}

// ended is the error with which f ended.
func ended(f func()) (err api.Errno) {
	defer func() {
		if e := recover(); e != nil {
			err = e.(api.Errno)
		}
	}()
	f()
	return api.OK
}

func (m *model) word(seg, at int) uint64 {
	w, err := m.mine.Word(seg, at)
	must(err == api.OK, err)
	return w
}

// led is what a word leads to.
func (m *model) led(seg, at int) api.Obj {
	w := m.word(seg, at)
	must(w&3 != 3, api.ErrKind)
	from := at + 1 + int(int32(w))>>2
	if w&3 == 2 {
		pad, off := int(w>>32), int(uint32(w)>>3)
		first := m.word(pad, off)
		if w&4 == 0 {
			must(first != 0 && first&2 == 0, api.ErrKind)
			w, seg, from = first, pad, off+1+int(int32(first))>>2
		} else {
			second := m.word(pad, off+1)
			must(first&7 == 2 && second != 0 && uint32(second)>>1 == 0, api.ErrKind)
			w, seg, from = second, int(first>>32), int(uint32(first)>>3)
		}
	}
	if w == 0 {
		return api.Obj{}
	}
	o := structAt(seg, from, int(w>>32&0xffff), int(w>>48))
	if w&1 == 1 {
		o = listAt(seg, from, int(w>>32&7), int(w>>35))
		must(slices.Contains([]int{2, 5, 6}, o.Size), api.ErrKind)
	}
	must(seg < len(m.a) && from >= 0 && from+long(o) <= len(m.a[seg]), api.ErrBounds)
	return o
}

// long is how many words something has.
func long(o api.Obj) int {
	if o.Size == api.OfBytes {
		return (o.Count + 7) / 8
	}
	return o.Data + o.Ptrs + o.Count
}

// on is what a path leads to from something on.
func (m *model) on(o api.Obj, p api.Path) api.Value {
	m.left -= 1 + long(o)
	must(m.left >= 0, api.ErrCost)
	if len(p.Steps) == 0 {
		return m.end(o, p.At)
	}
	k, kid := p.Steps[0], api.Obj{}
	p.Steps = p.Steps[1:]
	must(o.Kind != api.List || o.Size == api.OfPtrs, api.ErrKind)
	must(o.Kind != api.List || k < o.Count, api.ErrBounds)
	if k < o.Ptrs+o.Count {
		kid = m.led(o.Seg, o.At+o.Data+k)
	}
	return m.on(kid, p)
}

// end is what a path tells of something to which it led.
func (m *model) end(o api.Obj, at int) api.Value {
	if at < 0 {
		v := api.Value{Kind: o.Kind, Size: o.Size, Words: o.Data, Kids: o.Ptrs}
		if o.Size == api.OfPtrs {
			v.Kids = o.Count
		} else {
			v.Words += o.Count
		}
		return v
	}
	must(o.Size != api.OfPtrs, api.ErrKind)
	must(o.Kind != api.List || at < o.Count, api.ErrBounds)
	v := api.Value{Kind: o.Kind}
	switch {
	case o.Size == api.OfBytes:
		v.Word = m.word(o.Seg, o.At+at/8) << (56 - at%8*8) >> 56
	case at < o.Data+o.Count:
		v.Word = m.word(o.Seg, o.At+at)
	}
	return v
}

// asModelled looks whether a word, and a path, lead where the model has it, by the same words; it tells how that ended.
func asModelled(t *testing.T, s mine, at place, p api.Path, cost int) (string, string) {
	t.Helper()
	own, other := s, s
	var o api.Obj
	var v api.Value
	f := ended(func() { o = (&model{mine: &other}).led(at.seg, at.at) })
	if got, err := Follow(&own, at.seg, at.at); got != o || err != f || !slices.Equal(own.read, other.read) {
		t.Fatalf("Follow of the word %d of segment %d of %x = %+v, %d, by %v, want %+v, %d, by %v", at.at, at.seg, s.a, got, err, own.read, o, f, other.read)
	}
	own, other = s, s
	w := ended(func() {
		m := &model{mine: &other, left: cost}
		v = m.on(m.led(0, 0), p)
	})
	if got, err := Walk(&own, p, cost); got != v || err != w || !slices.Equal(own.read, other.read) {
		t.Fatalf("Walk of %x, %v, cost %d = %+v, %d, by %v, want %+v, %d, by %v", s.a, p, cost, got, err, own.read, v, w, other.read)
	}
	if s.fails == 0 {
		if got, err := Of(s.a, p, cost); arena.Right(s.a) && (got != v || err != w) {
			t.Fatalf("Of %x, %v, cost %d = %+v, %d, want %+v, %d", s.a, p, cost, got, err, v, w)
		}
	}
	return fmt.Sprintf("Follow %d %d %d", f, o.Kind, o.Size), fmt.Sprintf("Walk %d %d %d", w, v.Kind, v.Size)
}

// drawnWord is a pointer, most often one to somewhere in segments of that many words, about.
func drawnWord(draw func(int) int, segs, size int) uint64 {
	w := structWord(draw(size)-draw(size), draw(3), draw(4))
	switch draw(9) {
	case 0:
		w = 0
	case 1:
		w = uint64(draw(1 << 62))
	case 2:
		w = farWord(draw(segs), draw(size))
	case 3:
		w = doubleWord(draw(segs), draw(size))
	case 4, 5:
		w = listWord(draw(size)-draw(size), []int{api.OfBytes, api.OfWords, api.OfPtrs, api.OfPtrs, draw(8)}[draw(5)], draw(9))
	case 6:
		w = structWord(0, draw(3), draw(4))
	}
	if draw(40) == 0 {
		w ^= 1 << draw(64)
	}
	return w
}

// drawnArena is one of some segments, all of their words drawn.
func drawnArena(draw func(int) int) api.Arena {
	a := make(api.Arena, 1+draw(4))
	size := 2 + draw(20)
	for seg := range a {
		for range size/2 + draw(size) {
			a[seg] = append(a[seg], drawnWord(draw, len(a), size/2))
		}
	}
	return a
}

// drawnPlace is a word's, most often of one that is there.
func drawnPlace(draw func(int) int, a api.Arena) place {
	if draw(20) == 0 {
		return place{draw(6) - 1, draw(40) - 5}
	}
	seg := draw(len(a))
	return place{seg, draw(len(a[seg]))}
}

// TestDrawnArenas goes over words that may be anything.
func TestDrawnArenas(t *testing.T) {
	many := map[string]int{}
	draw := draws(9)
	for range 300000 {
		s := mine{a: drawnArena(draw)}
		if draw(4) == 0 {
			s.fails, s.err = 1+draw(4), api.ErrNotYet
		}
		p := path(draw(6) - 2)
		for range draw(5) {
			p.Steps = append(p.Steps, draw(4))
		}
		followed, walked := asModelled(t, s, drawnPlace(draw, s.a), p, draw(60)-2)
		many[followed]++
		many[walked]++
	}
	for _, end := range []string{
		"Follow 0 0 0", "Follow 0 1 0", "Follow 0 2 2", "Follow 0 2 5", "Follow 0 2 6", "Follow 20 0 0", "Follow 23 0 0", "Follow 30 0 0",
		"Walk 0 0 0", "Walk 0 1 0", "Walk 0 2 0", "Walk 0 2 2", "Walk 0 2 5", "Walk 0 2 6", "Walk 20 0 0", "Walk 22 0 0", "Walk 23 0 0", "Walk 30 0 0",
	} {
		if many[end] < 500 {
			t.Errorf("%s: only %d times", end, many[end])
		}
	}
}

// TestTwoWordsOfAnyKind has each of the kinds as a far pointer's landing place, and each of them where the pointer stands.
func TestTwoWordsOfAnyKind(t *testing.T) {
	var words []uint64
	for _, off := range []int{-4, -3, -2, -1, 0, 1, 2} {
		words = append(words, structWord(off, 0, 0), structWord(off, 1, 1), structWord(off, 2, 1), listWord(off, api.OfBytes, 8), listWord(off, api.OfWords, 3), listWord(off, api.OfPtrs, 2), listWord(off, 3, 0))
	}
	for seg := range 3 {
		for at := range 4 {
			words = append(words, farWord(seg, at), doubleWord(seg, at))
		}
	}
	words = append(words, capability, capability|8)
	for _, first := range words {
		for _, second := range words {
			for _, root := range []uint64{first, farWord(1, 1), doubleWord(1, 0), doubleWord(1, 1)} {
				asModelled(t, mine{a: api.Arena{{root, second}, {first, second, 7}}}, place{1, 1}, path(0, 0), 9)
			}
		}
	}
}
