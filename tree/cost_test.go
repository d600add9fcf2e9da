package tree

import (
	"slices"
	"testing"

	"sculler/api"
	"sculler/read"
)

// costs looks how much a tree costs.
func costs(t *testing.T, tree api.Node, want int) {
	t.Helper()
	if got := Cost(tree); got != want {
		t.Errorf("Cost of %.200s .. = %d, want %d", text(tree.Kind), got, want)
	}
}

func TestCostOfEachKind(t *testing.T) {
	costs(t, api.Node{}, 1)
	costs(t, record(0), 1)
	costs(t, record(1), 2)
	costs(t, record(0, api.Node{}), 1+1+1)
	costs(t, record(7, nulls(3)...), 1+7+3+3)
	costs(t, record(100, nulls(100)...), 1+200+100)
	costs(t, wordsOf(0), 1)
	costs(t, wordsOf(9), 10)
	costs(t, wordsOf(4096), 4097)
	costs(t, listOf(), 1)
	costs(t, listOf(nulls(3)...), 1+3+3)
	costs(t, listOf(nulls(4096)...), 1+4096+4096)
	for n, words := range map[int]int{0: 0, 1: 1, 7: 1, 8: 1, 9: 2, 16: 2, 17: 3, 4088: 511, 4089: 512, 4096: 512} {
		costs(t, bytesOf(n), 1+words)
		costs(t, record(1, bytesOf(n)), 3+1+words)
		costs(t, listOf(bytesOf(n), api.Node{}, bytesOf(n)), 4+1+2*(1+words))
	}
	costs(t, record(1, record(1, record(1, record(1)))), 3*3+2)
	costs(t, within(32, bytesOf(9)), 3+16*(1+3+1)+15*(1+2+1))
}

// modelledCost is that of a tree, thing by thing.
func modelledCost(tree api.Node) int {
	n := 1 + len(tree.Words) + len(tree.Kids) + (len(tree.Bytes)+7)/8
	for _, kid := range tree.Kids {
		n += modelledCost(kid)
	}
	return n
}

func TestCostOfDrawnTrees(t *testing.T) {
	draw := draws(14)
	l := append(trees(), sample())
	for range 3000 {
		l = append(l, drawn(draw, 2+draw(9), draw(6)))
	}
	for _, tree := range l {
		costs(t, tree, modelledCost(tree))
	}
}

// TestCostIsWhatAWalkGoesOver has trees of one way alone, which a walk goes to its end.
func TestCostIsWhatAWalkGoesOver(t *testing.T) {
	for n := 1; n <= 32; n++ {
		a := ends(nest(n))[1]
		p := path(0, make([]int, n-1)...)
		cost := Cost(nest(n))
		if _, err := read.Of(a, p, cost); err != api.OK {
			t.Errorf("a walk over %d things, by %d = %d", n, cost, err)
		}
		if _, err := read.Of(a, p, cost-1); err != api.ErrCost {
			t.Errorf("a walk over %d things, by %d = %d", n, cost-1, err)
		}
	}
}

// TestCostCountsWhatIsSharedAgain has lists of Kids that several things have, and pieces of them.
func TestCostCountsWhatIsSharedAgain(t *testing.T) {
	kids := []api.Node{record(1), bytesOf(9), api.Node{}, wordsOf(4), listOf(nulls(2)...)}
	each := []int{2, 3, 1, 5, 5}
	all := func(from, to int) int {
		n := 1 + to - from
		for _, one := range each[from:to] {
			n += one
		}
		return n
	}
	for from := range 6 {
		for to := from; to <= 5; to++ {
			for more := range 6 {
				tree := record(0, listOf(kids[from:to]...), record(1, kids[from:to]...), listOf(kids[:more]...), listOf(kids[more:]...), record(2, kids...))
				costs(t, tree, 6+2*all(from, to)+1+all(0, more)+all(more, 5)+2+all(0, 5))
			}
		}
	}
}

// worth is a tree of just that cost, by memory that is shared.
func worth(cost int) api.Node {
	if cost <= 101 {
		return record(cost - 1)
	}
	// Four Kids of the same cost each, and what is left as words.
	const many = 4
	left := cost - 1 - many
	return record(left%many, slices.Repeat([]api.Node{worth(left / many)}, many)...)
}

func TestCostUpTo2To53(t *testing.T) {
	const most = 1 << 53
	for _, cost := range []int{1, 2, 101, 102, 8192, 1 << 20, 1<<31 - 1, 1 << 31, 1 << 32, 1 << 40, most / 3, most / 2, most - 1000, most - 2, most - 1, most} {
		costs(t, worth(cost), cost)
	}
	for _, cost := range []int{most + 1, most + 2, most + 3, most + 100, 2 * most, 1 << 60, 1<<63 - 1} {
		costs(t, worth(cost), most)
		costs(t, listOf(worth(cost), worth(cost), api.Node{}), most)
	}
	// By the last Kid, by the first one, and by words.
	costs(t, listOf(worth(most-6), record(0)), most-2)
	costs(t, listOf(worth(most-5), record(1)), most)
	costs(t, listOf(record(1), worth(most-5)), most)
	costs(t, listOf(record(2), worth(most-5)), most)
	costs(t, listOf(worth(most-5), record(99)), most)
	costs(t, record(100, worth(most-102)), most)
	costs(t, record(100, worth(most-101)), most)
	costs(t, record(99, worth(most-102)), most-1)
	costs(t, listOf(worth(most/2), worth(most/2)), most)
	costs(t, listOf(slices.Repeat([]api.Node{worth(most)}, 1024)...), most) // 2^63, which is no number
	costs(t, listOf(slices.Repeat([]api.Node{worth(most)}, 2048)...), most) // 2^64
	// As many as may be, as deep as may be.
	tree := listOf(nulls(4096)...)
	for range 31 {
		tree = listOf(slices.Repeat([]api.Node{tree}, 4096)...)
	}
	costs(t, tree, most)
	costs(t, record(0, tree, api.Node{}), most)
}

// TestCostOfDeepTrees goes as deep as anything of which something is promised, and beyond.
func TestCostOfDeepTrees(t *testing.T) {
	for _, n := range []int{33, 100, 1000, 1 << 16} {
		costs(t, nest(n), 2*n)
	}
	Cost(nest(1 << 20))
	Ask(nest(1<<20), path(0, make([]int, 32)...))
	Paths(nest(1<<20), 10000)
}

// TestCostOfWhatLiesInItself has no end, and tells the most.
func TestCostOfWhatLiesInItself(t *testing.T) {
	kids := nulls(3)
	kids[1] = record(1, kids...)
	for _, tree := range []api.Node{itself(api.Struct, 0, 1), itself(api.Struct, 0, 100), itself(api.List, api.OfPtrs, 4096), crossed(), kids[1], listOf(api.Node{}, record(0, kids...))} {
		costs(t, tree, 1<<53)
	}
}
