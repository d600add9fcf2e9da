package mani

import (
	"bytes"
	"math"
	"slices"
	"testing"

	"sculler/api"
)

func TestWhatIsHandedInStays(t *testing.T) {
	for _, a := range append(arenas(), wrongArenas()...) {
		m, _ := Of(7, a)
		pages := [][]int{Page(m, 0), Page(m, 1), Page(m, 2), Page(m, 3)}
		before, ofM, ofPages := text(a), text(m), text(pages)
		Matches(m, a)
		Right(m)
		Words(m)
		Chunks(m)
		Pages(m)
		for _, i := range []int{-1, 0, 1, 3, 511, 512} {
			Size(m, i)
			Chunk(a, i)
			Page(m, i)
		}
		for i := range len(pages) + 1 {
			Join(pages[:i])
		}
		Same(m, m)
		if text(a) != before || text(m) != ofM || text(pages) != ofPages {
			t.Errorf("%.300s was changed to %.300s, %s to %s, or %s to %s", before, text(a), ofM, text(m), ofPages, text(pages))
		}
	}
}

// spoil writes on all of a list's memory, also on what lies behind its length.
func spoil[T any](l []T, by T) {
	l = l[:cap(l)]
	for i := range l {
		l[i] = by
	}
}

// TestWhatComesOutIsNew spoils each answer.
func TestWhatComesOutIsNew(t *testing.T) {
	for _, a := range arenas() {
		m, n := manifest(t, 7, a), manifest(t, 7, a)
		before, ofM := text(a), text(m)
		spoil(n.Sizes, -7)
		if text(a) != before || text(m) != ofM || text(manifest(t, 7, a)) != ofM {
			t.Errorf("the Sizes %s are not their own", ofM)
		}
		for _, i := range []int{0, Chunks(m) / 2, Chunks(m) - 1} {
			want := text(Chunk(a, i))
			b := Chunk(a, i)
			spoil(Chunk(a, i), 0x77)
			if text(a) != before || text(b) != want || text(Chunk(a, i)) != want {
				t.Errorf("chunk %d of %v is not its own", i, m.Sizes)
			}
		}
		for i := range Pages(m) {
			want := text(Page(m, i))
			page := Page(m, i)
			spoil(Page(m, i), -7)
			if text(m) != ofM || text(page) != want || text(Page(m, i)) != want {
				t.Errorf("page %d of %v is not its own", i, m.Sizes)
			}
		}
	}
}

func TestWhatIsJoinedIsNew(t *testing.T) {
	for _, pages := range [][][]int{{{1}}, {{1, 2, 3, 4}}, {{1, 2, 3, 4}, {5}}, {{1, 2, 3, 4}, {5, 6, 7, 8}}} {
		before := text(pages)
		one, _ := Join(pages)
		two, _ := Join(pages)
		want := text(one)
		spoil(two, -7)
		if text(pages) != before || text(one) != want {
			t.Errorf("what %s are joined to is not one's own", before)
		}
		for _, page := range pages {
			spoil(page, -7)
		}
		if text(one) != want {
			t.Errorf("what %s were joined to goes with them", before)
		}
	}
}

// TestAnswersDoNotGoWithWhatWasHandedIn spoils arguments behind a call.
func TestAnswersDoNotGoWithWhatWasHandedIn(t *testing.T) {
	for _, a := range arenas() {
		a = copied(a)
		m := manifest(t, 7, a)
		b, page := Chunk(a, 0), Page(m, 0)
		ofM, ofB, ofPage := text(m), text(b), text(page)
		for _, words := range a {
			spoil(words, math.MaxUint64)
		}
		spoil(a, nil)
		if text(m) != ofM || text(b) != ofB {
			t.Errorf("%s goes with its arena", ofM)
		}
		spoil(m.Sizes, -7)
		if text(page) != ofPage {
			t.Errorf("%s goes with its manifest", ofPage)
		}
	}
}

// TestWhatLiesBehindAList has lists that are a part of longer ones.
func TestWhatLiesBehindAList(t *testing.T) {
	for _, a := range []api.Arena{arenaOf(9), arenaOf(3, 2), arenaOf(8, 8), arenaOf(2, 0, 1, 4, 5)} {
		behind := make(api.Arena, len(a), len(a)+2)
		for seg, words := range a {
			long := append(slices.Clone(words), 5, 6, 7, 8, 9, 10, 11, 12)
			behind[seg] = long[:len(words)]
		}
		long := append(behind, []uint64{7}, []uint64{8})
		m := manifest(t, 7, behind)
		if !Same(m, manifest(t, 7, a)) || !Matches(m, behind) || !Matches(m, a) {
			t.Errorf("Of %v goes by what lies behind", a)
		}
		for i := range Chunks(m) {
			if !bytes.Equal(Chunk(behind, i), Chunk(a, i)) {
				t.Errorf("Chunk %d of %v goes by what lies behind", i, a)
			}
		}
		for seg, words := range behind {
			if l := words[len(words) : len(words)+8]; !slices.Equal(l, []uint64{5, 6, 7, 8, 9, 10, 11, 12}) {
				t.Errorf("behind segment %d there is %v", seg, l)
			}
		}
		if text(long[len(a):]) != "[[7] [8]]" {
			t.Errorf("behind the segments there is %v", long[len(a):])
		}
	}
}

func TestWhatLiesBehindSizes(t *testing.T) {
	sizes := []int{1, 2, 3, 4, 5, 6, 7}
	m, n := of(sizes[:3]...), of(1, 2, 3)
	if Words(m) != 6 || Chunks(m) != 1 || Pages(m) != 1 || !slices.Equal(Page(m, 0), sizes[:3]) || len(Page(m, 1)) != 0 || !Same(m, n) || Same(m, of(sizes...)) {
		t.Errorf("%v goes by what lies behind", m)
	}
	if got, ok := Join([][]int{sizes[:2]}); !ok || !slices.Equal(got, []int{1, 2}) {
		t.Errorf("Join = %v, %v", got, ok)
	}
	pages := [][]int{sizes[:4:4], sizes[4:5], sizes[5:6], sizes[6:7]}
	if got, ok := Join(pages[:2]); !ok || !slices.Equal(got, []int{1, 2, 3, 4, 5}) {
		t.Errorf("Join = %v, %v", got, ok)
	}
	if !slices.Equal(sizes, []int{1, 2, 3, 4, 5, 6, 7}) {
		t.Errorf("behind the sizes there is %v", sizes)
	}
}

// TestListsThatAreNil has them told as empty ones are.
func TestListsThatAreNil(t *testing.T) {
	a, b := api.Arena{{5}, nil}, api.Arena{{5}, {}}
	m, n := manifest(t, 7, a), manifest(t, 7, b)
	if !Same(m, n) || !Matches(m, b) || !Matches(n, a) || !bytes.Equal(Chunk(a, 0), Chunk(b, 0)) {
		t.Errorf("%v, %v: a segment that is nil is another than one that is empty", m, n)
	}
	for _, m := range []api.Manifest{{Session: 7}, {Session: 7, Sizes: []int{}}} {
		if Right(m) || Words(m) != 0 || Chunks(m) != 0 || Pages(m) != 0 || Size(m, 0) != 0 || len(Page(m, 0)) != 0 || !Same(m, api.Manifest{Session: 7}) {
			t.Errorf("of %v", m)
		}
	}
}
