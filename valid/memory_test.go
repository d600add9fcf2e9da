package valid

import (
	"slices"
	"testing"

	"sculler/api"
	"sculler/arena"
)

// handed are arenas that may be sent, and some that may not.
func handed(t *testing.T) []api.Arena {
	l := append(wide(), shelf(), around(0), costing(1), costing(2), nil, api.Arena{{}}, api.Arena{{capability}}, api.Arena{chain(33, 0)})
	for _, size := range []int{9, 12, api.MaxWords} {
		l = append(l, built(t, sample(), size))
	}
	return l
}

func TestWhatIsHandedInStays(t *testing.T) {
	other := built(t, sample(), 9)
	otherText := text(other)
	for _, a := range handed(t) {
		p := path(0, 0, 1, 2)
		before := text(a)
		Check(a)
		Canon(a)
		Equal(a, other)
		Equal(other, a)
		Touched(a, p)
		if text(a) != before || text(other) != otherText || !slices.Equal(p.Steps, []int{0, 1, 2}) {
			t.Errorf("%.300s was changed to %.300s", before, text(a))
		}
	}
}

// TestWhatComesOutIsNew spoils an answer, and what was handed in.
func TestWhatComesOutIsNew(t *testing.T) {
	for _, size := range []int{9, api.MaxWords} {
		a := built(t, sample(), size)
		before := text(a)
		canon, again := canonOf(t, a), canonOf(t, a)
		want := text(canon)
		for _, words := range canon {
			spoil(words)
		}
		if text(a) != before || text(again) != want || text(canonOf(t, a)) != want {
			t.Error("a Canon's words are not its own")
		}
		l, _ := Touched(a, path(0, 0))
		m, _ := Touched(a, path(0, 0))
		spans := text(l)
		for i := range l[:cap(l)] {
			l[:cap(l)][i] = api.Span{From: -7, To: 9}
		}
		if n, _ := Touched(a, path(0, 0)); text(a) != before || text(m) != spans || text(n) != spans {
			t.Error("what was Touched is not one's own")
		}
		for _, words := range a {
			spoil(words)
		}
		if text(again) != want || text(m) != spans {
			t.Error("an answer goes with what was handed in")
		}
	}
}

func spoil(words []uint64) {
	words = words[:cap(words)]
	for i := range words {
		words[i] = capability
	}
}

// TestWhatLiesBehindAList has segments, and steps, that are a part of longer ones.
func TestWhatLiesBehindAList(t *testing.T) {
	whole := built(t, sample(), 9)
	canon := canonOf(t, whole)
	behind := copied(whole)
	for seg, words := range behind {
		long := append(slices.Clone(words), capability, capability)
		behind[seg] = long[:len(words)]
	}
	long := append(behind, []uint64{capability})
	behind = long[:len(whole)]
	passed(t, behind, canon)
	if err := justEnough(t, behind, path(0, 2)); err != api.OK {
		t.Errorf("Touched: %d", err)
	}
	for seg, words := range behind {
		if l := words[len(words) : len(words)+2]; !slices.Equal(l, []uint64{capability, capability}) {
			t.Errorf("behind segment %d there is %x", seg, l)
		}
	}
	if last := long[len(whole)]; !slices.Equal(last, []uint64{capability}) {
		t.Errorf("behind the segments there is %x", last)
	}
	// One segment, or one word, fewer than would be needed, both of which lie behind.
	refused(t, whole[:len(whole)-1], api.ErrBounds)
	short := slices.Clone(whole)
	short[0] = short[0][:len(short[0])-1]
	refused(t, short, api.ErrBounds)
	if arena.Same(short, whole) {
		t.Error("the short one is as long")
	}
	steps := []int{2, -1, 0}
	if l, err := Touched(whole, api.Path{Steps: steps[:1], At: -1}); err != api.OK || len(l) == 0 {
		t.Errorf("Touched by a part of some steps = %v, %d", l, err)
	}
}

// TestListsThatAreNil has them told as empty ones are, and the other way round.
func TestListsThatAreNil(t *testing.T) {
	a, b := api.Arena{{structWord(-1, 0, 0)}, nil}, api.Arena{{structWord(-1, 0, 0)}, {}}
	for _, x := range []api.Arena{a, b} {
		passed(t, x, api.Arena{{structWord(-1, 0, 0)}})
		touched(t, x, api.Path{}, 0, 1)
		touched(t, x, api.Path{Steps: []int{}}, 0, 1)
	}
	if !Equal(a, b) || Equal(nil, nil) || Equal(api.Arena{}, nil) {
		t.Error("Equal by a segment that is nil")
	}
	refused(t, nil, api.ErrArg)
	refused(t, api.Arena{}, api.ErrArg)
}
