package build

import (
	"fmt"
	"math"
	"slices"
	"testing"

	"sculler/api"
)

// draws is a row of numbers without an order to be seen, the same each time.
func draws(seed uint64) func(below int) int {
	return func(below int) int {
		seed += 0x9e3779b97f4a7c15
		n := (seed ^ seed>>30) * 0xbf58476d1ce4e5b9
		n = (n ^ n>>27) * 0x94d049bb133111eb
		return int((n ^ n>>31) % uint64(below))
	}
}

// record is a struct of words and Kids.
func record(words []uint64, kids ...api.Node) api.Node {
	return api.Node{Kind: api.Struct, Words: words, Kids: kids}
}

// wordsOf and bytesOf are lists of so many, all of them others; listOf is one of Kids.
func wordsOf(n int) api.Node {
	return api.Node{Kind: api.List, Size: api.OfWords, Words: numbers(n)}
}

func bytesOf(n int) api.Node {
	b := make([]byte, n)
	for i := range b {
		b[i] = byte(7*i + 1)
	}
	return api.Node{Kind: api.List, Size: api.OfBytes, Bytes: b}
}

func listOf(kids ...api.Node) api.Node {
	return api.Node{Kind: api.List, Size: api.OfPtrs, Kids: kids}
}

// numbers are so many words, each with its greatest byte and its least one.
func numbers(n int) []uint64 {
	l := make([]uint64, n)
	for i := range l {
		l[i] = uint64(i+1)<<56 | uint64(2*i+1)
	}
	return l
}

// nulls are so many Kids of no kind.
func nulls(n int) []api.Node {
	return make([]api.Node, n)
}

// within is a tree of n things one in the other, the innermost of them as it is told.
func within(n int, inner api.Node) api.Node {
	t := inner
	for i := 1; i < n; i++ {
		if i%2 == 0 {
			t = listOf(api.Node{}, t)
		} else {
			t = record([]uint64{uint64(i)}, t, api.Node{})
		}
	}
	return t
}

// copied is a tree once more, in memory of its own.
func copied(t api.Node) api.Node {
	t.Words, t.Bytes, t.Kids = slices.Clone(t.Words), slices.Clone(t.Bytes), slices.Clone(t.Kids)
	for i, kid := range t.Kids {
		t.Kids[i] = copied(kid)
	}
	return t
}

// text is all of a tree, or an arena, in which nil and empty lists are the same.
func text(x any) string {
	return fmt.Sprint(x)
}

// ends are numbers at and about the ends of an int, and about 0 and some powers of 2.
func ends() []int {
	l := []int{math.MinInt, math.MinInt + 1, math.MinInt + 2, math.MaxInt - 2, math.MaxInt - 1, math.MaxInt}
	for _, p := range []int{8, 12, 16, 31, 32, 53, 61, 62} {
		for n := range 4 {
			l = append(l, 1<<p+n, -1<<p+n)
		}
	}
	for n := -3; n <= 9; n++ {
		l = append(l, n)
	}
	return l
}

// trees are Right, some of them at their ends.
func trees() []api.Node {
	l := []api.Node{
		{}, {Words: []uint64{}, Bytes: []byte{}, Kids: []api.Node{}},
		record(nil), record([]uint64{7}), record([]uint64{0}), record(nil, api.Node{}), record([]uint64{1, 2}, nulls(3)...),
		record(numbers(100)), record(nil, nulls(100)...), record(numbers(100), nulls(100)...), record(numbers(99), nulls(99)...),
		listOf(), listOf(nulls(1)...), listOf(nulls(4095)...), listOf(nulls(4096)...), listOf(record(nil), bytesOf(0), wordsOf(0), listOf()),
		record([]uint64{1}, record([]uint64{2}), bytesOf(9), wordsOf(2), listOf(record([]uint64{3}), api.Node{}), api.Node{}),
		listOf(bytesOf(1), bytesOf(8), record(nil, bytesOf(17), record(nil)), listOf(listOf(listOf(wordsOf(3))))),
		within(2, wordsOf(5)), within(31, record(nil)), within(32, api.Node{}), within(32, bytesOf(3)), within(32, record(numbers(100), nulls(100)...)),
		within(33, api.Node{}), within(32, listOf(nulls(4)...)), listOf(within(31, bytesOf(1)), within(31, wordsOf(1)), within(2, bytesOf(1))),
	}
	for _, n := range []int{0, 1, 2, 7, 8, 9, 15, 16, 17, 100, 101, 4088, 4089, 4095, 4096} {
		l = append(l, bytesOf(n), wordsOf(n))
	}
	return l
}

// strange are no trees that may be, each for one reason.
func strange() []api.Node {
	word, one, kid := []uint64{0}, []byte{0}, nulls(1)
	l := []api.Node{
		{Size: 1}, {Size: -1}, {Size: api.OfBytes}, {Size: api.OfWords}, {Size: api.OfPtrs}, {Words: word}, {Bytes: one}, {Kids: kid}, {Kids: []api.Node{record(word)}},
		{Size: api.OfBytes, Bytes: one}, {Size: api.OfWords, Words: word}, {Size: api.OfPtrs, Kids: kid}, {Words: word, Bytes: one, Kids: kid},

		{Kind: api.Struct, Bytes: one}, {Kind: api.Struct, Words: word, Bytes: one}, {Kind: api.Struct, Kids: kid, Bytes: one},
		{Kind: api.Struct, Size: api.OfBytes, Bytes: one}, {Kind: api.Struct, Size: api.OfWords, Words: word}, {Kind: api.Struct, Size: api.OfPtrs, Kids: kid},
		record(numbers(101)), record(nil, nulls(101)...), record(numbers(101), nulls(101)...), record(numbers(100), nulls(101)...), record(numbers(101), nulls(100)...),
		record(numbers(4096)), record(nil, nulls(4097)...), record(make([]uint64, 65536+1)), record(nil, nulls(65536)...), record(numbers(201)),

		bytesOf(4097), wordsOf(4097), listOf(nulls(4097)...), bytesOf(32768), bytesOf(65537), wordsOf(65536), listOf(nulls(65536)...),
		{Kind: api.List, Size: api.OfBytes, Words: word}, {Kind: api.List, Size: api.OfBytes, Kids: kid}, {Kind: api.List, Size: api.OfBytes, Bytes: one, Words: word},
		{Kind: api.List, Size: api.OfBytes, Bytes: one, Kids: kid}, {Kind: api.List, Size: api.OfWords, Bytes: one}, {Kind: api.List, Size: api.OfWords, Kids: kid},
		{Kind: api.List, Size: api.OfWords, Words: word, Bytes: one}, {Kind: api.List, Size: api.OfWords, Words: word, Kids: kid}, {Kind: api.List, Size: api.OfPtrs, Words: word},
		{Kind: api.List, Size: api.OfPtrs, Bytes: one}, {Kind: api.List, Size: api.OfPtrs, Kids: kid, Words: word}, {Kind: api.List, Size: api.OfPtrs, Kids: kid, Bytes: one},
		{Kind: api.List, Words: word}, {Kind: api.List, Bytes: one}, {Kind: api.List, Kids: kid}, {Kind: api.List, Words: word, Bytes: one, Kids: kid},

		within(33, record(nil)), within(33, bytesOf(0)), within(33, listOf()), within(34, api.Node{}), within(40, wordsOf(1)), within(1000, api.Node{}),
		record(nil, nulls(1)[0], within(31, wordsOf(1)), within(32, record(nil))), listOf(within(32, listOf(nulls(2)...))),
	}
	for _, n := range ends() {
		if n != api.Struct {
			l = append(l, api.Node{Kind: api.Struct, Size: n + 1}) // any but 0
		}
		if n != api.Null && n != api.Struct && n != api.List {
			l = append(l, api.Node{Kind: n}, api.Node{Kind: n, Words: word}, api.Node{Kind: n, Size: api.OfWords, Words: word}, api.Node{Kind: n, Kids: kid})
		}
		if n != api.OfBytes && n != api.OfWords && n != api.OfPtrs {
			l = append(l, api.Node{Kind: api.List, Size: n}, api.Node{Kind: api.List, Size: n, Words: word}, api.Node{Kind: api.List, Size: n, Bytes: one})
		}
	}
	return slices.DeleteFunc(l, func(t api.Node) bool { return text(t) == text(record(nil)) })
}

func TestRight(t *testing.T) {
	for i, tree := range trees() {
		if !Right(tree) {
			t.Errorf("tree %d is not Right", i)
		}
	}
}

func TestRightOfStrangeTrees(t *testing.T) {
	for i, tree := range strange() {
		if Right(tree) {
			t.Errorf("tree %d, of Kind %d, Size %d, %d words, %d bytes, %d Kids, is Right", i, tree.Kind, tree.Size, len(tree.Words), len(tree.Bytes), len(tree.Kids))
		}
	}
}

// TestRightOfAKid lays each of them as the first Kid, the last one, and deep in others.
func TestRightOfAKid(t *testing.T) {
	around := func(tree api.Node) []api.Node {
		return []api.Node{
			record(nil, tree), record([]uint64{1}, api.Node{}, tree), record(nil, tree, record(nil)), listOf(tree), listOf(bytesOf(3), tree), listOf(tree, bytesOf(3)),
			listOf(append(nulls(4095), tree)...), record(nil, append(nulls(99), tree)...), listOf(record(nil, listOf(record(nil, api.Node{}, tree)))),
		}
	}
	for i, tree := range strange() {
		for j, all := range append(around(tree), within(20, listOf(tree)), within(31, listOf(tree))) {
			if Right(all) {
				t.Errorf("tree %d, as a Kid of %d, is Right", i, j)
			}
		}
	}
	for i, tree := range []api.Node{{}, record(nil), record([]uint64{7}, nulls(2)...), bytesOf(4096), wordsOf(4096), listOf(nulls(4096)...), within(28, bytesOf(9)), within(29, api.Node{})} {
		for j, all := range around(tree) {
			if !Right(all) {
				t.Errorf("tree %d, as a Kid of %d, is not Right", i, j)
			}
		}
	}
}

// TestRightByDepth counts the things that lie one in the other; Null is none of them.
func TestRightByDepth(t *testing.T) {
	for n := 1; n <= 40; n++ {
		for _, inner := range []api.Node{record(nil), record([]uint64{1}), bytesOf(0), bytesOf(9), wordsOf(0), wordsOf(1), listOf(), listOf(nulls(3)...), record(nil, nulls(3)...)} {
			if got := Right(within(n, inner)); got != (n <= 32) {
				t.Errorf("Right of %d one in the other = %v", n, got)
			}
		}
		if got := Right(within(n, api.Node{})); got != (n <= 33) {
			t.Errorf("Right of %d one in the other, and Null in them, = %v", n-1, got)
		}
	}
}

// TestRightOfManyAtDepth has things that are no deeper than others beside them.
func TestRightOfManyAtDepth(t *testing.T) {
	for _, c := range []struct {
		tree api.Node
		want bool
	}{
		{listOf(within(31, bytesOf(1)), within(31, bytesOf(1)), within(31, bytesOf(1))), true},
		{listOf(within(31, bytesOf(1)), within(32, bytesOf(1)), within(31, bytesOf(1))), false},
		{listOf(within(31, bytesOf(1)), within(31, bytesOf(1)), within(32, bytesOf(1))), false},
		{listOf(within(32, bytesOf(1)), within(1, bytesOf(1))), false},
		{record(nil, append(nulls(50), slices.Repeat([]api.Node{within(31, wordsOf(1))}, 50)...)...), true},
	} {
		if got := Right(c.tree); got != c.want {
			t.Errorf("Right of %d Kids = %v", len(c.tree.Kids), got)
		}
	}
}

// itself is a list of Kids the first of which has that list.
func itself(kind, size int) api.Node {
	kids := nulls(3)
	kids[0] = api.Node{Kind: kind, Size: size, Kids: kids}
	kids[2] = kids[0]
	return kids[0]
}

// TestListsThatLieInThemselves ends.
func TestListsThatLieInThemselves(t *testing.T) {
	for _, tree := range []api.Node{itself(api.Struct, 0), itself(api.List, api.OfPtrs), itself(api.Null, 0), itself(api.Far, 0)} {
		if Right(tree) {
			t.Error("a list that lies in itself is Right")
		}
		if a, err := Build(tree, 4096); a != nil || err != api.ErrArg {
			t.Errorf("Build = %v, %d", a, err)
		}
		Need(tree)
		Same(tree, tree)
		Same(tree, itself(api.Struct, 0))
	}
}

func TestNeed(t *testing.T) {
	for _, c := range []struct {
		tree api.Node
		want int
	}{
		{api.Node{}, 0}, {record(nil), 0}, {record([]uint64{7}), 1}, {record(nil, api.Node{}), 1}, {record([]uint64{7, 8}, nulls(3)...), 5},
		{record(numbers(100), nulls(100)...), 200}, {record(nil, bytesOf(9), wordsOf(100)), 2}, // of itself alone
		{bytesOf(0), 0}, {bytesOf(1), 1}, {bytesOf(7), 1}, {bytesOf(8), 1}, {bytesOf(9), 2}, {bytesOf(15), 2}, {bytesOf(16), 2}, {bytesOf(17), 3},
		{bytesOf(4088), 511}, {bytesOf(4089), 512}, {bytesOf(4096), 512},
		{wordsOf(0), 0}, {wordsOf(1), 1}, {wordsOf(8), 8}, {wordsOf(9), 9}, {wordsOf(4096), 4096},
		{listOf(), 0}, {listOf(api.Node{}), 1}, {listOf(wordsOf(5), listOf(nulls(6)...)), 2}, {listOf(nulls(4096)...), 4096},
		// These are not Right.
		{record(numbers(101)), 101}, {record(numbers(5000), nulls(101)...), 5101}, {wordsOf(5000), 5000}, {bytesOf(4097), 513}, {bytesOf(80001), 10001},
		{api.Node{Kind: api.Struct, Words: numbers(2), Bytes: make([]byte, 100)}, 2}, {api.Node{Kind: api.Struct, Size: api.OfBytes, Bytes: make([]byte, 9)}, 0},
		{api.Node{Words: numbers(3), Kids: nulls(2), Bytes: []byte{1}}, 0}, {api.Node{Kind: api.Far, Words: numbers(3), Kids: nulls(2), Bytes: []byte{1}}, 0},
		{api.Node{Kind: api.List, Words: numbers(3)}, 3}, {api.Node{Kind: api.List, Size: 7, Kids: nulls(2)}, 2}, {api.Node{Kind: api.List, Size: -1, Bytes: make([]byte, 9)}, 2},
	} {
		if got := Need(c.tree); got != c.want {
			t.Errorf("Need of Kind %d, Size %d, %d words, %d bytes, %d Kids = %d, want %d", c.tree.Kind, c.tree.Size, len(c.tree.Words), len(c.tree.Bytes), len(c.tree.Kids), got, c.want)
		}
	}
	for n := range 300 {
		if got, want := Need(bytesOf(n)), len(slices.Collect(slices.Chunk(make([]byte, n), 8))); got != want {
			t.Errorf("Need of %d bytes = %d, want %d", n, got, want)
		}
	}
	for _, kind := range ends() {
		if kind == api.Struct || kind == api.List {
			continue
		}
		if got := Need(api.Node{Kind: kind, Size: api.OfWords, Words: numbers(3)}); got != 0 {
			t.Errorf("Need of Kind %d = %d", kind, got)
		}
	}
}

// sample has one of each, several deep.
func sample() api.Node {
	return record([]uint64{1, 2},
		bytesOf(9), api.Node{}, wordsOf(3),
		listOf(record([]uint64{5}, bytesOf(1), bytesOf(2)), api.Node{}, listOf(wordsOf(1)), record(nil)),
		record([]uint64{6}, record([]uint64{7}, record([]uint64{8}, api.Node{}))))
}

// changes are a tree's copies, each of which is another one in one place.
func changes(tree api.Node) []api.Node {
	var l []api.Node
	change := func(f func(t *api.Node)) {
		c := copied(tree)
		f(&c)
		l = append(l, c)
	}
	for _, n := range []int{1, -1, 2, 1 << 32, math.MinInt} {
		change(func(t *api.Node) { t.Kind += n })
		change(func(t *api.Node) { t.Size += n })
	}
	for i := range tree.Words {
		for bit := range 64 {
			change(func(t *api.Node) { t.Words[i] ^= 1 << bit })
		}
	}
	for i := range tree.Bytes {
		for bit := range 8 {
			change(func(t *api.Node) { t.Bytes[i] ^= 1 << bit })
		}
	}
	change(func(t *api.Node) { t.Words = append(t.Words, 0) })
	change(func(t *api.Node) { t.Bytes = append(t.Bytes, 0) })
	change(func(t *api.Node) { t.Kids = append(t.Kids, api.Node{}) })
	if len(tree.Words) > 0 {
		change(func(t *api.Node) { t.Words = t.Words[1:] })
		change(func(t *api.Node) { t.Words = t.Words[:len(t.Words)-1] })
	}
	if len(tree.Bytes) > 0 {
		change(func(t *api.Node) { t.Bytes = t.Bytes[1:] })
		change(func(t *api.Node) { t.Bytes = t.Bytes[:len(t.Bytes)-1] })
	}
	if len(tree.Kids) > 0 {
		change(func(t *api.Node) { t.Kids = t.Kids[1:] })
		change(func(t *api.Node) { t.Kids = t.Kids[:len(t.Kids)-1] })
	}
	for i, kid := range tree.Kids {
		for _, other := range changes(kid) {
			change(func(t *api.Node) { t.Kids[i] = other })
		}
	}
	return l
}

func TestSameOfAChange(t *testing.T) {
	tree := sample()
	for i, other := range changes(tree) {
		// What was taken off one end of a list may leave the same, as noughts do.
		want := text(tree) == text(other)
		if Same(tree, other) != want || Same(other, tree) != want {
			t.Errorf("Same of change %d, %v, is not %v", i, other, want)
		}
		if !Same(other, copied(other)) {
			t.Errorf("Same of change %d, %v, and its copy is false", i, other)
		}
	}
}

func TestSameOfAnyTwo(t *testing.T) {
	l := append(trees(), within(100, bytesOf(1)), within(100, bytesOf(2)), within(101, bytesOf(1)))
	for _, other := range strange() {
		if len(l) < 120 {
			l = append(l, other)
		}
	}
	texts := make([]string, len(l))
	for i, tree := range l {
		texts[i] = text(tree)
	}
	for i, a := range l {
		for j, b := range l {
			if got := Same(a, b); got != (texts[i] == texts[j]) {
				t.Errorf("Same of trees %d and %d = %v", i, j, got)
			}
		}
	}
}

func TestSameOfNilAndEmpty(t *testing.T) {
	a := api.Node{Kind: api.Struct, Kids: []api.Node{{}, {Kind: api.List, Size: api.OfPtrs}}}
	b := api.Node{Kind: api.Struct, Words: []uint64{}, Bytes: []byte{}, Kids: []api.Node{
		{Words: []uint64{}, Kids: []api.Node{}}, {Kind: api.List, Size: api.OfPtrs, Words: make([]uint64, 0, 9), Kids: make([]api.Node, 0, 9)},
	}}
	if !Same(a, b) || !Same(b, a) {
		t.Error("nil and empty lists are not the same")
	}
	if Same(record(nil), record([]uint64{0})) || Same(bytesOf(0), api.Node{Kind: api.List, Size: api.OfBytes, Bytes: []byte{0}}) || Same(listOf(), listOf(api.Node{})) {
		t.Error("an empty list, and one of a nought, are the same")
	}
}

// TestSameOfDeepTrees goes as deep as anything of which something is promised.
func TestSameOfDeepTrees(t *testing.T) {
	const deep = 1 << 16
	a, b := within(deep, wordsOf(1)), within(deep, wordsOf(1))
	if !Same(a, b) {
		t.Error("Same of a deep tree and its copy is false")
	}
	if Same(a, within(deep, wordsOf(2))) {
		t.Error("what lies deep is not seen")
	}
	if Right(a) {
		t.Error("a deep tree is Right")
	}
}
