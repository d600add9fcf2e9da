package read

import (
	"math"
	"slices"
	"testing"

	"sculler/api"
	"sculler/arena"
	"sculler/build"
)

// record is a struct of so many words, and Kids; wordsOf and bytesOf are lists of so many, listOf is one of Kids.
func record(words int, kids ...api.Node) api.Node {
	return api.Node{Kind: api.Struct, Words: ones(words), Kids: kids}
}

func wordsOf(n int) api.Node {
	return api.Node{Kind: api.List, Size: api.OfWords, Words: ones(n)}
}

func bytesOf(n int) api.Node {
	l := make([]byte, n)
	for i := range l {
		l[i] = byte(255 - 7*i)
	}
	return api.Node{Kind: api.List, Size: api.OfBytes, Bytes: l}
}

func listOf(kids ...api.Node) api.Node {
	return api.Node{Kind: api.List, Size: api.OfPtrs, Kids: kids}
}

// trees have all kinds, with words and without, and some are as deep as may be.
func trees() []api.Node {
	deep := bytesOf(3)
	for i := range 31 {
		if deep = record(1, deep); i%3 == 0 {
			deep = listOf(append([]api.Node{{}}, deep.Kids...)...)
		}
	}
	return []api.Node{
		{}, record(0), record(1), record(3, api.Node{}), bytesOf(0), bytesOf(1), bytesOf(8), bytesOf(9), bytesOf(25), wordsOf(0), wordsOf(5), listOf(), listOf(api.Node{}, record(2)),
		record(2, bytesOf(17), api.Node{}, wordsOf(3), listOf(record(1, bytesOf(2)), api.Node{}, listOf(wordsOf(2)), record(0)), record(1, record(1, record(4)), bytesOf(0))),
		listOf(listOf(listOf(bytesOf(9)), wordsOf(0)), record(0, record(0, wordsOf(7)), api.Node{}), bytesOf(16)),
		record(100, slices.Repeat([]api.Node{record(1), bytesOf(9)}, 50)...), listOf(wordsOf(1000), bytesOf(8000), wordsOf(1000)), deep,
	}
}

// asked is what a path leads to in a tree, and what it costs.
func asked(t api.Node, p api.Path) (api.Value, api.Errno, int) {
	cost := 1 + len(t.Words) + (len(t.Bytes)+7)/8 + len(t.Kids)
	if len(p.Steps) == 0 {
		v, err := ofNode(t, p.At)
		return v, err, cost
	}
	kid := api.Node{}
	switch k := p.Steps[0]; {
	case t.Kind == api.List && t.Size != api.OfPtrs:
		return api.Value{}, api.ErrKind, cost
	case k < len(t.Kids):
		kid = t.Kids[k]
	case t.Kind == api.List:
		return api.Value{}, api.ErrBounds, cost
	}
	v, err, more := asked(kid, api.Path{Steps: p.Steps[1:], At: p.At})
	return v, err, cost + more
}

// ofNode is what is told of something at the end of a path.
func ofNode(t api.Node, at int) (api.Value, api.Errno) {
	v := api.Value{Kind: t.Kind}
	switch {
	case at < 0:
		v.Size, v.Words, v.Kids = t.Size, len(t.Words)+len(t.Bytes), len(t.Kids)
	case t.Size == api.OfPtrs:
		return api.Value{}, api.ErrKind
	case at < len(t.Words):
		v.Word = t.Words[at]
	case at < len(t.Bytes):
		v.Word = uint64(t.Bytes[at])
	case t.Kind == api.List:
		return api.Value{}, api.ErrBounds
	}
	return v, api.OK
}

// paths are the steps to each thing of a tree, and to some that are none.
func paths(t api.Node) [][]int {
	l := [][]int{nil}
	for k, kid := range t.Kids {
		for _, steps := range paths(kid) {
			l = append(l, append([]int{k}, steps...))
		}
	}
	return append(l, []int{len(t.Kids)}, []int{len(t.Kids), 1}, []int{math.MaxInt})
}

// asAsked looks what one path leads to, at the cost that just pays for it, by one too little, and by none.
func asAsked(t *testing.T, tree api.Node, s Source, p api.Path) {
	t.Helper()
	want, wantErr, cost := asked(tree, p)
	for _, c := range []int{cost, math.MaxInt, cost - 1, 0, -1} {
		if c < cost {
			want, wantErr = api.Value{}, api.ErrCost
		}
		if v, err := Walk(s, p, c); v != want || err != wantErr {
			t.Fatalf("Walk over %v, %v, cost %d of %d = %+v, %d, want %+v, %d", tree, p, c, cost, v, err, want, wantErr)
		}
	}
}

// builds are the arenas of a tree, by each size that makes another one.
func builds(tree api.Node) []api.Arena {
	var l []api.Arena
	for size := 1; size <= api.MaxWords; size += 1 + size/20 {
		a, err := build.Build(tree, size)
		if err == api.OK && (len(l) == 0 || !arena.Same(a, l[len(l)-1])) {
			l = append(l, a)
		}
	}
	return l
}

// TestWhatWasBuiltIsReadAsItWas reads each tree at all of its paths, in one segment and in several.
func TestWhatWasBuiltIsReadAsItWas(t *testing.T) {
	several := 0
	for _, tree := range trees() {
		for _, a := range builds(tree) {
			s := Whole(a)
			for _, steps := range paths(tree) {
				if len(steps) > api.MaxPath {
					continue
				}
				for at := -2; at < 28; at++ {
					asAsked(t, tree, s, path(at, steps...))
				}
				asAsked(t, tree, s, path(7999, steps...))
			}
			if len(a) > 1 {
				several++
			}
		}
	}
	if several < 30 {
		t.Errorf("only %d trees were built in several segments", several)
	}
}
