package tree

import (
	"math"
	"slices"
	"testing"

	"sculler/api"
	"sculler/read"
)

// told looks which paths a tree has.
func told(t *testing.T, tree api.Node, most int, want []api.Path) {
	t.Helper()
	if got := Paths(tree, most); text(got) != text(want) {
		t.Errorf("Paths of %.200s .., %d = %d of them, %.300s .., want %d, %.300s ..", text(tree), most, len(got), text(got), len(want), text(want))
	}
}

// counted are the paths of so many words, or bytes, behind some steps.
func counted(n int, steps ...int) []api.Path {
	l := []api.Path{path(-1, steps...)}
	for at := range n {
		l = append(l, path(at, steps...))
	}
	return l
}

func TestPathsOfEachKind(t *testing.T) {
	for _, most := range []int{5000, 10000, math.MaxInt} {
		told(t, api.Node{}, most, counted(0))
		for _, n := range []int{0, 1, 2, 7, 8, 9, 100} {
			told(t, record(n), most, counted(n))
			told(t, wordsOf(n), most, counted(n))
			told(t, bytesOf(n), most, counted(n))
			told(t, record(2, wordsOf(n)), most, append(counted(2), counted(n, 0)...))
			told(t, listOf(api.Node{}, bytesOf(n)), most, slices.Concat(counted(0), counted(0, 0), counted(n, 1)))
		}
		told(t, wordsOf(4096), most, counted(4096))
		told(t, bytesOf(4096), most, counted(4096))
		told(t, listOf(), most, counted(0))
		told(t, listOf(nulls(2)...), most, slices.Concat(counted(0), counted(0, 0), counted(0, 1)))
		told(t, record(1, nulls(2)...), most, slices.Concat(counted(1), counted(0, 0), counted(0, 1)))
	}
}

// TestPathsGoKidByKid has all of each Kid ahead of the next one.
func TestPathsGoKidByKid(t *testing.T) {
	told(t, sample(), math.MaxInt, slices.Concat(
		counted(2), counted(9, 0), counted(0, 1), counted(3, 2),
		counted(0, 3), counted(1, 3, 0), counted(1, 3, 0, 0), counted(2, 3, 0, 1), counted(0, 3, 1), counted(0, 3, 2), counted(1, 3, 2, 0), counted(0, 3, 3),
		counted(1, 4), counted(1, 4, 0), counted(1, 4, 0, 0), counted(0, 4, 0, 0, 0),
	))
}

// TestPathsOfDeepTrees goes on to Null in as many things as may be.
func TestPathsOfDeepTrees(t *testing.T) {
	for n := 1; n <= 32; n++ {
		var want []api.Path
		for k := range n - 1 {
			want = append(want, counted(0, make([]int, k)...)...)
		}
		zeros := make([]int, n-1)
		told(t, nest(n), 99, append(want, counted(1, zeros...)...))
	}
	tree := listOf(api.Node{})
	for range 31 {
		tree = record(1, tree)
	}
	l := Paths(tree, math.MaxInt)
	if len(l) != 31*2+2 || !slices.Equal(l[63].Steps, make([]int, 32)) || l[63].At != -1 {
		t.Errorf("Paths of 32 things and Null are %d, the last one %v", len(l), l[len(l)-1])
	}
}

// many are how many paths a tree has.
func many(tree api.Node) int {
	n := 1 + len(tree.Bytes) + len(tree.Words)
	for _, kid := range tree.Kids {
		n += many(kid)
	}
	return n
}

func TestPathsUpToAMost(t *testing.T) {
	for _, tree := range append(trees(), listOf(wordsOf(4096), bytesOf(4096), sample())) {
		n := many(tree)
		all := Paths(tree, math.MaxInt)
		if len(all) != min(n, 10000) {
			t.Errorf("Paths of %.200s .. are %d, want %d", text(tree), len(all), n)
		}
		for _, most := range []int{math.MinInt, -10000, -1, 0, 1, 2, 3, n / 2, n - 1, n, n + 1, 9999, 10000, 10001, 1 << 32, math.MaxInt} {
			told(t, tree, most, all[:max(0, min(most, len(all)))])
		}
	}
}

// TestPathsUpTo10000 has trees of about as many, and of very many.
func TestPathsUpTo10000(t *testing.T) {
	for _, n := range []int{9997, 9998, 9999, 10000, 10001, 20000} {
		tree := listOf(wordsOf(4000), bytesOf(4000), wordsOf(n-8004), api.Node{})
		want := slices.Concat(counted(0), counted(4000, 0), counted(4000, 1), counted(n-8004, 2), counted(0, 3))
		for _, most := range []int{1, 4001, 4002, 9999, 10000, 10001, 20000, math.MaxInt} {
			told(t, tree, most, want[:min(most, len(want), 10000)])
		}
	}
	great := wordsOf(9)
	for range 20 {
		great = listOf(slices.Repeat([]api.Node{great}, 100)...)
	}
	l := Paths(great, math.MaxInt)
	if len(l) != 10000 || l[19].At != -1 || len(l[20].Steps) != 20 || l[21].At != 0 {
		t.Errorf("Paths of a very great tree are %d, %.500s ..", len(l), text(l))
	}
}

// modelledPaths are those of a tree, one call for each of its things.
func modelledPaths(tree api.Node, steps ...int) []api.Path {
	l := counted(len(tree.Words)+len(tree.Bytes), steps...)
	for k, kid := range tree.Kids {
		l = append(l, modelledPaths(kid, append(slices.Clone(steps), k)...)...)
	}
	return l
}

// TestPathsOfDrawnTrees looks also whether each leads to something, and whether that is said of the arena too.
func TestPathsOfDrawnTrees(t *testing.T) {
	draw := draws(13)
	for range 1000 {
		tree := drawn(draw, 2+draw(8), draw(6))
		want := modelledPaths(tree)
		told(t, tree, 10000, want[:min(len(want), 10000)])
		most := draw(len(want) + 3)
		told(t, tree, most, want[:min(most, len(want), 10000)])
		for _, p := range Paths(tree, 500) {
			if _, err := Ask(tree, p); err != api.OK {
				t.Errorf("Ask of %v, %v = %d", tree, p, err)
			}
		}
	}
	for _, tree := range trees() {
		for _, a := range ends(tree) {
			for _, p := range Paths(tree, 2000) {
				if _, err := read.Of(a, p, api.MaxCost); err != api.OK {
					t.Errorf("Of %v in the arena of %.200s .. = %d", p, text(tree), err)
				}
			}
		}
	}
}

// TestPathsAreNewMemory spoils the steps of one path after the other, and looks at all others.
func TestPathsAreNewMemory(t *testing.T) {
	want := modelledPaths(sample())
	first, second := Paths(sample(), 99), Paths(sample(), 99)
	for i, p := range first {
		own := p.Steps[:cap(p.Steps)]
		for k := range own {
			own[k] = -9
		}
		if text(first[i+1:]) != text(want[i+1:]) {
			t.Fatalf("the path %d shares memory with one behind it", i)
		}
	}
	for i, p := range first {
		if len(p.Steps) != len(want[i].Steps) || slices.ContainsFunc(p.Steps, func(k int) bool { return k != -9 }) {
			t.Errorf("the path %d is %v", i, p)
		}
	}
	if text(second) != text(want) {
		t.Error("paths share memory with those of another call")
	}
	// Also with what lies behind a path's steps, one number another one each.
	l := Paths(sample(), 99)
	n := 0
	for range 2 {
		n = 0
		for _, p := range l {
			own := p.Steps[:cap(p.Steps)]
			for k := range own {
				if own[k] < 0 && own[k] != -1000-n {
					t.Errorf("the number %d is shared", n)
				}
				own[k] = -1000 - n
				n++
			}
		}
	}
}

// TestPathsEndWhereTheyAreLeft leaves them at each place.
func TestPathsEndWhereTheyAreLeft(t *testing.T) {
	want := modelledPaths(sample())
	for most := 1; most <= len(want); most++ {
		var l []api.Path
		for p := range paths(sample(), nil) {
			if l = append(l, p); len(l) == most {
				break
			}
		}
		if text(l) != text(want[:most]) {
			t.Errorf("the first %d paths are %v", most, l)
		}
	}
}
