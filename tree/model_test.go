package tree

import (
	"fmt"
	"math"
	"slices"
	"testing"

	"sculler/api"
	"sculler/read"
)

// A model has the tree of an arena by what read.Walk tells of each path from the root on. Where that ends, it panics with the error.
type model struct {
	read.Source
	cost int
}

func (m *model) ask(at int, steps []int) api.Value {
	v, err := read.Walk(m.Source, api.Path{Steps: steps, At: at}, math.MaxInt)
	must(err == api.OK, err)
	return v
}

func must(ok bool, err api.Errno) {
	if !ok {
		panic(err)
	}
}

func (m *model) tree(steps []int) api.Node {
	v := m.ask(-1, steps)
	must(v.Kind == api.Null || len(steps) < 32, api.ErrDepth)
	t := api.Node{Kind: v.Kind, Size: v.Size}
	m.cost += 1 + v.Words + v.Kids
	if v.Size == api.OfBytes {
		m.cost -= v.Words - (v.Words+7)/8
	}
	must(m.cost <= 8192, api.ErrCost)
	for at := range v.Words {
		w := m.ask(at, steps).Word
		if v.Size == api.OfBytes {
			t.Bytes = append(t.Bytes, byte(w))
		} else {
			t.Words = append(t.Words, w)
		}
	}
	for k := range v.Kids {
		t.Kids = append(t.Kids, m.tree(append(slices.Clone(steps), k)))
	}
	return t
}

// modelled is the tree of an arena, or why there is none.
func modelled(a api.Arena) (t api.Node, err api.Errno) {
	defer func() {
		if e := recover(); e != nil {
			t, err = api.Node{}, e.(api.Errno)
		}
	}()
	m := &model{Source: read.Whole(a)}
	return m.tree(nil), api.OK
}

// drawnWord is a pointer, most often one to somewhere in segments of that many words, about, and behind it, if it is to lead forth.
func drawnWord(draw func(int) int, segs, size int, forth bool) uint64 {
	back := size
	if forth {
		back = 1
	}
	off := draw(size) - draw(back)
	switch draw(12) {
	case 0, 1:
		return 0
	case 2:
		return farWord(draw(segs), draw(size))
	case 3:
		return doubleWord(draw(segs), draw(size))
	case 4, 5:
		return listWord(off, []int{api.OfBytes, api.OfBytes, api.OfWords}[draw(3)], draw(9))
	case 6:
		return structWord(-1, 0, 0)
	case 7, 8:
		return listWord(off, api.OfPtrs, draw(5))
	}
	return structWord(off, draw(3), draw(4))
}

// drawnArena is one of some segments, all of their words drawn.
func drawnArena(draw func(int) int) api.Arena {
	a := make(api.Arena, 1+draw(3))
	size, forth := 2+draw(20), draw(2) == 0
	for seg := range a {
		for range size {
			a[seg] = append(a[seg], drawnWord(draw, len(a), size, forth))
		}
		if draw(2) == 0 {
			// Room for what the last words lead to.
			a[seg] = append(a[seg], make([]uint64, size)...)
		}
		if draw(10) == 0 {
			a[seg][draw(size)] ^= 1 << draw(64)
		}
	}
	return a
}

// fannedOut is one segment each word of which leads to some of the next ones, the last ones of them noughts.
func fannedOut(draw func(int) int) api.Arena {
	var words []uint64
	for range 10 + draw(20) {
		words = append(words, structWord(draw(3), draw(2), 2+draw(3)), listWord(draw(3), api.OfPtrs, 1+draw(4)))
	}
	return api.Arena{append(words, make([]uint64, 10)...)}
}

// TestDecodeOfDrawnArenas goes over words that may be anything.
func TestDecodeOfDrawnArenas(t *testing.T) {
	many := map[string]int{}
	draw := draws(10)
	for i := range 50000 {
		a := drawnArena(draw)
		if i%300 == 0 {
			a = fannedOut(draw)
		}
		want, wantErr := modelled(a)
		got, err := Decode(a)
		if err != wantErr || text(got) != text(want) {
			t.Fatalf("Decode of %x = %v, %d, want %v, %d", a, got, err, want, wantErr)
		}
		many[fmt.Sprint(err)]++
		if err == api.OK && len(got.Kids) > 0 {
			many["OK, with Kids"]++
		}
	}
	for _, end := range []string{"OK, with Kids", fmt.Sprint(api.OK), fmt.Sprint(api.ErrBounds), fmt.Sprint(api.ErrDepth), fmt.Sprint(api.ErrCost), fmt.Sprint(api.ErrKind)} {
		if many[end] < 100 {
			t.Errorf("%s: only %d times", end, many[end])
		}
	}
}
