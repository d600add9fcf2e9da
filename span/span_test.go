package span

import (
	"math"
	"math/big"
	"slices"
	"testing"

	"sculler/api"
	"sculler/bits"
)

// of are spans by their ends: From, To, From, To, ..
func of(ends ...int) []api.Span {
	l := []api.Span{}
	for pair := range slices.Chunk(ends, 2) {
		l = append(l, api.Span{From: pair[0], To: pair[1]})
	}
	return l
}

// draws is a row of numbers without an order to be seen, the same each time.
func draws(seed uint64) func(below int) int {
	return func(below int) int {
		seed += 0x9e3779b97f4a7c15
		n := (seed ^ seed>>30) * 0xbf58476d1ce4e5b9
		n = (n ^ n>>27) * 0x94d049bb133111eb
		return int((n ^ n>>31) % uint64(below))
	}
}

// A field is some rising numbers: all spans of it begin and end at these, and each cell between two of them is there whole or not at all.
type field []int

// fields lie side by side around 0, with gaps and touching the ends of numbers.
func fields() []field {
	return []field{
		{-2, -1, 0, 1, 2},
		{math.MinInt, math.MinInt + 1, 0, math.MaxInt - 1, math.MaxInt},
		{math.MinInt, -1 << 53, -1, 1 << 53, math.MaxInt},
		{0, 1, 1<<53 - 1, 1 << 53, 1<<53 + 1},
	}
}

// spans are all of a field, those without places too.
func (f field) spans() []api.Span {
	var l []api.Span
	for _, from := range f {
		for _, to := range f {
			l = append(l, api.Span{From: from, To: to})
		}
	}
	return l
}

// lists are all of up to three spans of a field, in each order, and some longer ones.
func (f field) lists() [][]api.Span {
	spans, l := f.spans(), [][]api.Span{nil, {}}
	for _, a := range spans {
		l = append(l, []api.Span{a})
		for _, b := range spans {
			l = append(l, []api.Span{a, b})
			for _, c := range spans {
				l = append(l, []api.Span{a, b, c})
			}
		}
	}
	draw := draws(1)
	for range 300 {
		long := make([]api.Span, 4+draw(40))
		for i := range long {
			long[i] = spans[draw(len(spans))]
		}
		l = append(l, long)
	}
	return l
}

// cells says which cells of a field are there.
func (f field) cells(l ...api.Span) []bool {
	there := make([]bool, len(f)-1)
	for _, s := range l {
		for i := range there {
			there[i] = there[i] || s.From <= f[i] && f[i+1] <= s.To
		}
	}
	return there
}

// runs are the Right spans of a field's cells.
func (f field) runs(there []bool) []api.Span {
	var l []api.Span
	for i := 0; i < len(there); i++ {
		if !there[i] {
			continue
		}
		from := f[i]
		for i < len(there) && there[i] {
			i++
		}
		l = append(l, api.Span{From: from, To: f[i]})
	}
	return l
}

// places is how many a field's cells have, by numbers that know no end.
func (f field) places(there []bool) *big.Int {
	n := new(big.Int)
	for i, is := range there {
		if is {
			n.Add(n, big.NewInt(int64(f[i+1])))
			n.Sub(n, big.NewInt(int64(f[i])))
		}
	}
	return n
}

// without are the cells of a that are none of b's.
func without(a, b []bool) []bool {
	l := make([]bool, len(a))
	for i := range a {
		l[i] = a[i] && !b[i]
	}
	return l
}

func TestField(t *testing.T) {
	f := field{-2, 0, 3, 4, 9}
	there := f.cells(of(4, 9, 3, -2, -2, 3, 0, 0)...)
	if !slices.Equal(there, []bool{true, true, false, true}) {
		t.Fatalf("cells are %t", there)
	}
	if got := f.runs(there); !slices.Equal(got, of(-2, 3, 4, 9)) {
		t.Fatalf("runs are %v", got)
	}
	if got := f.places(there); got.Int64() != 10 {
		t.Fatalf("places are %d", got)
	}
	if got := without(there, []bool{true, false, false, false}); !slices.Equal(got, []bool{false, true, false, true}) {
		t.Fatalf("without is %t", got)
	}
}

func TestExample(t *testing.T) {
	if got := Norm(of(3, 5, 0, 3)); !slices.Equal(got, of(0, 5)) {
		t.Errorf("Norm of 3 to 5, 0 to 3 = %v", got)
	}
	if got := Holes(of(2, 4), api.Span{From: 0, To: 6}); !slices.Equal(got, of(0, 2, 4, 6)) {
		t.Errorf("Holes of 2 to 4 in 0 to 6 = %v", got)
	}
}

func TestNorm(t *testing.T) {
	for _, c := range []struct{ l, want []api.Span }{
		{nil, nil},
		{of(), nil},
		{of(3, 5), of(3, 5)},
		// They touch.
		{of(0, 3, 3, 5), of(0, 5)},
		{of(0, 1, 1, 2, 2, 3), of(0, 3)},
		{of(2, 3, 0, 1, 1, 2), of(0, 3)},
		// One place lies in between.
		{of(0, 3, 4, 5), of(0, 3, 4, 5)},
		{of(4, 5, 0, 3), of(0, 3, 4, 5)},
		// They overlap.
		{of(0, 4, 2, 6), of(0, 6)},
		{of(2, 6, 0, 4), of(0, 6)},
		{of(0, 4, 3, 8, 7, 9), of(0, 9)},
		// One lies in the other.
		{of(0, 9, 2, 4), of(0, 9)},
		{of(2, 4, 0, 9), of(0, 9)},
		{of(0, 9, 2, 4, 8, 12), of(0, 12)},
		{of(0, 9, 2, 4, 6, 7, 10, 11), of(0, 9, 10, 11)},
		{of(0, 4, 0, 9), of(0, 9)},
		{of(0, 9, 0, 4), of(0, 9)},
		{of(5, 9, 0, 9), of(0, 9)},
		// More than once.
		{of(3, 5, 3, 5), of(3, 5)},
		{of(3, 5, 7, 8, 3, 5, 7, 8), of(3, 5, 7, 8)},
		// None: To is not above From.
		{of(3, 3), nil},
		{of(5, 3), nil},
		{of(0, 0, 9, 1), nil},
		{of(math.MaxInt, math.MinInt), nil},
		{of(math.MinInt, math.MinInt, math.MaxInt, math.MaxInt), nil},
		{of(0, 2, 2, 2, 3, 5), of(0, 2, 3, 5)},
		{of(0, 2, 9, 2, 3, 5), of(0, 2, 3, 5)},
		{of(0, 2, 2, 0, 3, 5, 1, 9), of(0, 9)},
		{of(3, 5, 2, -2, 2, 2), of(3, 5)},
		// Below 0, and up to the ends of numbers.
		{of(-3, -1, -5, -3), of(-5, -1)},
		{of(-3, -1, 0, 1), of(-3, -1, 0, 1)},
		{of(-3, 0, 0, 1), of(-3, 1)},
		{of(math.MinInt, math.MaxInt), of(math.MinInt, math.MaxInt)},
		{of(0, math.MaxInt, math.MinInt, 0), of(math.MinInt, math.MaxInt)},
		{of(1, math.MaxInt, math.MinInt, 0), of(math.MinInt, 0, 1, math.MaxInt)},
		{of(math.MaxInt-1, math.MaxInt, math.MinInt, math.MinInt+1), of(math.MinInt, math.MinInt+1, math.MaxInt-1, math.MaxInt)},
	} {
		if got := Norm(c.l); !slices.Equal(got, c.want) {
			t.Errorf("Norm(%v) = %v, want %v", c.l, got, c.want)
		}
	}
}

func TestNormHasJustThePlaces(t *testing.T) {
	for _, f := range fields() {
		for _, l := range f.lists() {
			got, want := Norm(l), f.runs(f.cells(l...))
			if !slices.Equal(got, want) {
				t.Fatalf("Norm(%v) = %v, want %v", l, got, want)
			}
			if !Right(got) {
				t.Fatalf("Norm(%v) = %v, which is not Right", l, got)
			}
			if again := Norm(got); !slices.Equal(again, got) {
				t.Fatalf("Norm(%v) = %v", got, again)
			}
		}
	}
}

// The same places have the same spans, however they are told.
func TestTheSamePlacesHaveTheSameSpans(t *testing.T) {
	draw := draws(2)
	for range 300 {
		var whole, pieces []api.Span
		for at, n := draw(20)-10, draw(8); len(whole) < n; at += 1 + draw(5) {
			from := at
			for range 1 + draw(4) {
				pieces = append(pieces, api.Span{From: at, To: at + 1 + draw(3)})
				at = pieces[len(pieces)-1].To
			}
			whole = append(whole, api.Span{From: from, To: at})
			pieces = append(pieces, api.Span{From: from + draw(at-from), To: at}, api.Span{From: at, To: from})
		}
		for i := range pieces {
			j := draw(i + 1)
			pieces[i], pieces[j] = pieces[j], pieces[i]
		}
		if got := Norm(pieces); !slices.Equal(got, whole) {
			t.Fatalf("Norm(%v) = %v, want %v", pieces, got, whole)
		}
		if got, want := Long(pieces), Long(whole); got != want {
			t.Fatalf("Long(%v) = %d, and %d of %v", pieces, got, want, whole)
		}
	}
}

func TestNormOfMany(t *testing.T) {
	const many = 100000
	var apart, touching []api.Span
	for i := range many {
		at := i * 7919 % many
		apart = append(apart, api.Span{From: 2 * at, To: 2*at + 1})
		touching = append(touching, api.Span{From: at, To: at + 1})
	}
	if got := Norm(apart); len(got) != many || !Right(got) || got[0].From != 0 || got[many-1].To != 2*many-1 {
		t.Errorf("Norm of %d spans that lie apart has %d", many, len(got))
	}
	if got := Norm(touching); !slices.Equal(got, of(0, many)) {
		t.Errorf("Norm of %d spans that touch has %d", many, len(got))
	}
	if got := Long(apart); got != many {
		t.Errorf("Long of %d spans of one place = %d", many, got)
	}
}

func TestRight(t *testing.T) {
	for _, c := range []struct {
		l    []api.Span
		want bool
	}{
		{nil, true},
		{of(), true},
		{of(0, 1), true},
		{of(-5, -3, -2, 0, 1, 9), true},
		{of(0, 3, 4, 5), true},
		{of(math.MinInt, math.MinInt+1, math.MaxInt-1, math.MaxInt), true},
		{of(math.MinInt, 0, 1, math.MaxInt), true},
		{of(math.MinInt, math.MaxInt), true},
		// They touch.
		{of(0, 3, 3, 5), false},
		{of(0, 1, 2, 3, 3, 4), false},
		{of(math.MinInt, 0, 0, math.MaxInt), false},
		// They overlap, or one lies in the other, or is it.
		{of(0, 3, 2, 5), false},
		{of(0, 9, 2, 4), false},
		{of(0, 3, 0, 5), false},
		{of(0, 3, 0, 3), false},
		{of(0, 1, 3, 5, 4, 9), false},
		// They come in another order.
		{of(4, 5, 0, 3), false},
		{of(0, 1, 6, 7, 3, 4), false},
		{of(-2, -1, -5, -3), false},
		{of(math.MaxInt-1, math.MaxInt, math.MinInt, math.MinInt+1), false},
		// They have no places.
		{of(3, 3), false},
		{of(5, 3), false},
		{of(0, 0), false},
		{of(math.MaxInt, math.MinInt), false},
		{of(math.MinInt, math.MinInt), false},
		{of(0, 1, 3, 3), false},
		{of(0, 1, 5, 3), false},
		{of(0, 0, 1, 3), false},
		{of(-1, -3, 1, 3), false},
		{of(0, 1, 3, 3, 5, 7), false},
		{of(0, 1, 9, 3, 5, 7), false},
	} {
		if got := Right(c.l); got != c.want {
			t.Errorf("Right(%v) = %t", c.l, got)
		}
	}
}

func TestRightIsAsTheRunsAre(t *testing.T) {
	for _, f := range fields() {
		for _, l := range f.lists() {
			if got, want := Right(l), slices.Equal(l, f.runs(f.cells(l...))); got != want {
				t.Fatalf("Right(%v) = %t", l, got)
			}
		}
	}
}

func TestHas(t *testing.T) {
	for _, c := range []struct {
		l    []api.Span
		s    api.Span
		want bool
	}{
		{of(0, 5), api.Span{From: 0, To: 5}, true},
		{of(0, 5), api.Span{From: 0, To: 1}, true},
		{of(0, 5), api.Span{From: 4, To: 5}, true},
		{of(0, 5), api.Span{From: 2, To: 3}, true},
		{of(0, 5), api.Span{From: 4, To: 6}, false},
		{of(0, 5), api.Span{From: 5, To: 6}, false},
		{of(0, 5), api.Span{From: -1, To: 1}, false},
		{of(0, 5), api.Span{From: -1, To: 0}, false},
		{of(0, 5), api.Span{From: -1, To: 6}, false},
		{of(0, 5), api.Span{From: 9, To: 12}, false},
		// By more than one of them.
		{of(0, 2, 2, 5), api.Span{From: 1, To: 4}, true},
		{of(2, 5, 0, 2), api.Span{From: 0, To: 5}, true},
		{of(0, 3, 2, 5), api.Span{From: 0, To: 5}, true},
		{of(0, 2, 3, 5), api.Span{From: 0, To: 5}, false},
		{of(0, 2, 3, 5), api.Span{From: 1, To: 4}, false},
		{of(0, 2, 3, 5), api.Span{From: 2, To: 3}, false},
		{of(3, 5, 0, 2), api.Span{From: 3, To: 5}, true},
		{of(0, 2, 3, 5), api.Span{From: 0, To: 2}, true},
		// There are none.
		{nil, api.Span{From: 0, To: 1}, false},
		{of(), api.Span{From: 0, To: 1}, false},
		{of(3, 3, 5, 1), api.Span{From: 2, To: 3}, false},
		{of(3, 3, 5, 1), api.Span{From: 3, To: 4}, false},
		// None is asked for.
		{nil, api.Span{}, true},
		{of(), api.Span{From: 3, To: 3}, true},
		{nil, api.Span{From: 5, To: 3}, true},
		{of(0, 5), api.Span{From: 9, To: 9}, true},
		{of(0, 5), api.Span{From: 9, To: 7}, true},
		{of(0, 5), api.Span{From: -7, To: -9}, true},
		{of(0, 5), api.Span{From: math.MaxInt, To: math.MinInt}, true},
		{of(0, 2, 3, 5), api.Span{From: 4, To: 1}, true},
		// Below 0, and up to the ends of numbers.
		{of(-5, -2), api.Span{From: -4, To: -2}, true},
		{of(-5, -2), api.Span{From: -4, To: -1}, false},
		{of(-5, 5), api.Span{From: -1, To: 1}, true},
		{of(math.MinInt, math.MaxInt), api.Span{From: math.MinInt, To: math.MaxInt}, true},
		{of(math.MinInt, 0, 0, math.MaxInt), api.Span{From: math.MinInt, To: math.MaxInt}, true},
		{of(math.MinInt, 0, 1, math.MaxInt), api.Span{From: math.MinInt, To: math.MaxInt}, false},
		{of(math.MinInt+1, math.MaxInt), api.Span{From: math.MinInt, To: math.MaxInt}, false},
		{of(math.MinInt, math.MaxInt-1), api.Span{From: math.MaxInt - 1, To: math.MaxInt}, false},
	} {
		if got := Has(c.l, c.s); got != c.want {
			t.Errorf("Has(%v, %v) = %t", c.l, c.s, got)
		}
	}
}

func TestHoles(t *testing.T) {
	for _, c := range []struct {
		l    []api.Span
		s    api.Span
		want []api.Span
	}{
		{of(2, 4), api.Span{From: 0, To: 6}, of(0, 2, 4, 6)},
		{of(2, 4), api.Span{From: 2, To: 4}, nil},
		{of(2, 4), api.Span{From: 3, To: 4}, nil},
		{of(2, 4), api.Span{From: 2, To: 6}, of(4, 6)},
		{of(2, 4), api.Span{From: 3, To: 6}, of(4, 6)},
		{of(2, 4), api.Span{From: 0, To: 4}, of(0, 2)},
		{of(2, 4), api.Span{From: 0, To: 3}, of(0, 2)},
		{of(2, 4), api.Span{From: 0, To: 2}, of(0, 2)},
		{of(2, 4), api.Span{From: 0, To: 1}, of(0, 1)},
		{of(2, 4), api.Span{From: 4, To: 6}, of(4, 6)},
		{of(2, 4), api.Span{From: 5, To: 6}, of(5, 6)},
		// There are more of them.
		{of(2, 4, 6, 8), api.Span{From: 0, To: 10}, of(0, 2, 4, 6, 8, 10)},
		{of(6, 8, 2, 4), api.Span{From: 0, To: 10}, of(0, 2, 4, 6, 8, 10)},
		{of(2, 4, 6, 8), api.Span{From: 3, To: 7}, of(4, 6)},
		{of(2, 4, 6, 8), api.Span{From: 4, To: 6}, of(4, 6)},
		{of(2, 4, 6, 8, 10, 12), api.Span{From: 5, To: 9}, of(5, 6, 8, 9)},
		{of(2, 4, 4, 8), api.Span{From: 0, To: 10}, of(0, 2, 8, 10)},
		{of(2, 9, 4, 5), api.Span{From: 0, To: 10}, of(0, 2, 9, 10)},
		{of(2, 4, 2, 4, 3, 3, 9, 1), api.Span{From: 0, To: 6}, of(0, 2, 4, 6)},
		{of(0, 1, 2, 3), api.Span{From: 9, To: 12}, of(9, 12)},
		{of(5, 6, 7, 8), api.Span{From: 1, To: 3}, of(1, 3)},
		// There are none.
		{nil, api.Span{From: 3, To: 5}, of(3, 5)},
		{of(), api.Span{From: -3, To: 5}, of(-3, 5)},
		{of(4, 4, 5, 3), api.Span{From: 3, To: 5}, of(3, 5)},
		{nil, api.Span{From: math.MinInt, To: math.MaxInt}, of(math.MinInt, math.MaxInt)},
		// The span has none.
		{nil, api.Span{}, nil},
		{nil, api.Span{From: 3, To: 3}, nil},
		{of(), api.Span{From: 5, To: 3}, nil},
		{of(2, 4), api.Span{From: 9, To: 9}, nil},
		{of(2, 4), api.Span{From: 6, To: 0}, nil},
		{of(2, 4), api.Span{From: 3, To: 1}, nil},
		{of(2, 4), api.Span{From: 9, To: 7}, nil},
		{of(2, 4, 6, 8), api.Span{From: 5, To: 5}, nil},
		{of(2, 4, 6, 8), api.Span{From: 9, To: 5}, nil},
		{of(2, 4), api.Span{From: math.MaxInt, To: math.MinInt}, nil},
		// Below 0, and up to the ends of numbers.
		{of(-4, -2), api.Span{From: -6, To: 0}, of(-6, -4, -2, 0)},
		{of(-1, 1), api.Span{From: math.MinInt, To: math.MaxInt}, of(math.MinInt, -1, 1, math.MaxInt)},
		{of(math.MinInt, -1, 1, math.MaxInt), api.Span{From: math.MinInt, To: math.MaxInt}, of(-1, 1)},
		{of(math.MinInt, math.MaxInt), api.Span{From: math.MinInt, To: math.MaxInt}, nil},
		{of(math.MinInt+1, math.MaxInt-1), api.Span{From: math.MinInt, To: math.MaxInt}, of(math.MinInt, math.MinInt+1, math.MaxInt-1, math.MaxInt)},
	} {
		if got := Holes(c.l, c.s); !slices.Equal(got, c.want) {
			t.Errorf("Holes(%v, %v) = %v, want %v", c.l, c.s, got, c.want)
		}
	}
}

func TestHasAndHolesOfEachSpan(t *testing.T) {
	for _, f := range fields() {
		for _, l := range f.lists() {
			there := f.cells(l...)
			for _, s := range f.spans() {
				want := f.runs(without(f.cells(s), there))
				if got := Holes(l, s); !slices.Equal(got, want) {
					t.Fatalf("Holes(%v, %v) = %v, want %v", l, s, got, want)
				}
				if got := Has(l, s); got != (want == nil) {
					t.Fatalf("Has(%v, %v) = %t", l, s, got)
				}
			}
		}
	}
}

func TestOf(t *testing.T) {
	for _, c := range []struct {
		b    []byte
		want []api.Span
	}{
		{nil, nil},
		{[]byte{}, nil},
		{[]byte{0}, nil},
		{[]byte{0, 0, 0}, nil},
		{[]byte{7}, of(0, 3)},
		{[]byte{5}, of(0, 1, 2, 3)},
		{[]byte{0x55}, of(0, 1, 2, 3, 4, 5, 6, 7)},
		{[]byte{0xaa}, of(1, 2, 3, 4, 5, 6, 7, 8)},
		{[]byte{0x7e}, of(1, 7)},
		// At the ends of bytes.
		{[]byte{1}, of(0, 1)},
		{[]byte{0x80}, of(7, 8)},
		{[]byte{255}, of(0, 8)},
		{[]byte{0x80, 1}, of(7, 9)},
		{[]byte{0x80, 0x80}, of(7, 8, 15, 16)},
		{[]byte{1, 1}, of(0, 1, 8, 9)},
		{[]byte{1, 0x80}, of(0, 1, 15, 16)},
		{[]byte{0, 1}, of(8, 9)},
		{[]byte{0xf0, 0x0f}, of(4, 12)},
		{[]byte{255, 255}, of(0, 16)},
		{[]byte{255, 0, 255}, of(0, 8, 16, 24)},
		{[]byte{0x80, 255, 1}, of(7, 17)},
		{[]byte{0xfe, 0x7f, 0x81}, of(1, 15, 16, 17, 23, 24)},
	} {
		if got := Of(c.b); !slices.Equal(got, c.want) {
			t.Errorf("Of(%x) = %v, want %v", c.b, got, c.want)
		}
	}
}

// Each row of bits has the spans that have just its bits.
func TestOfHasJustTheBits(t *testing.T) {
	draw := draws(3)
	for i := range 600 {
		b := make([]byte, i%40)
		for j := range b {
			b[j] = []byte{0, 255, 1, 0x80, byte(draw(256))}[draw(5)]
		}
		got := Of(b)
		if !Right(got) {
			t.Fatalf("Of(%x) = %v, which is not Right", b, got)
		}
		if Long(got) != bits.Count(b) {
			t.Fatalf("Of(%x) = %v, of %d bits", b, got, bits.Count(b))
		}
		for j := -8; j < 8*len(b)+8; j++ {
			if Has(got, api.Span{From: j, To: j + 1}) != bits.Get(b, j) {
				t.Fatalf("Of(%x) = %v: bit %d", b, got, j)
			}
		}
	}
}

// A row may have more bits than bits.Make tells.
func TestOfManyBits(t *testing.T) {
	b := make([]byte, 9000)
	for i := range b {
		b[i] = 255
	}
	if got := Of(b); !slices.Equal(got, of(0, 72000)) {
		t.Errorf("Of 9000 full bytes = %v", got)
	}
	b[8191], b[8192] = 0x7f, 0xfe
	if got := Of(b); !slices.Equal(got, of(0, 65535, 65537, 72000)) {
		t.Errorf("Of 9000 bytes without the bits 65535 and 65536 = %v", got)
	}
}

func TestLong(t *testing.T) {
	const end = 1 << 53
	for _, c := range []struct {
		l    []api.Span
		want int
	}{
		{nil, 0},
		{of(), 0},
		{of(3, 5), 2},
		{of(3, 4), 1},
		{of(0, 3, 4, 9), 8},
		{of(4, 9, 0, 3), 8},
		// Each place counts once.
		{of(0, 3, 3, 5), 5},
		{of(0, 4, 2, 6), 6},
		{of(0, 9, 2, 4), 9},
		{of(2, 4, 0, 9), 9},
		{of(3, 5, 3, 5, 3, 5), 2},
		// To is not above From.
		{of(3, 3), 0},
		{of(5, 3), 0},
		{of(3, 5, 9, 0), 2},
		{of(math.MaxInt, math.MinInt), 0},
		{of(math.MaxInt, math.MinInt, 0, 1), 1},
		{of(0, math.MinInt), 0},
		// Below 0.
		{of(-5, -3), 2},
		{of(-5, 5), 10},
		{of(math.MinInt, math.MinInt+7), 7},
		{of(math.MaxInt-7, math.MaxInt), 7},
		// Up to 2^53, and more.
		{of(0, end-1), end - 1},
		{of(0, end), end},
		{of(0, end+1), end},
		{of(-1, end-2), end - 1},
		{of(-1, end-1), end},
		{of(-1, end), end},
		{of(math.MaxInt-end, math.MaxInt), end},
		{of(math.MinInt, math.MinInt+end-1), end - 1},
		{of(math.MinInt, math.MinInt+end+1), end},
		{of(0, end/2, end, end+end/2-1), end - 1},
		{of(0, end/2, end, end+end/2), end},
		{of(0, end/2, end, end+end/2+1), end},
		{of(0, end-1, end, end+1), end},
		{of(0, end, end+1, end+2), end},
		{of(0, end, 2*end, 3*end, 4*end, 5*end), end},
		{of(0, end, 0, end, -1, -2), end},
		{of(0, math.MaxInt), end},
		{of(math.MinInt, 0), end},
		{of(math.MinInt, math.MaxInt), end},
		{of(math.MinInt, -1, 1, math.MaxInt), end},
		{of(math.MinInt, 0, 1, 2), end},
		{of(-1, math.MaxInt), end},
		{of(math.MinInt, 1), end},
	} {
		if got := Long(c.l); got != c.want {
			t.Errorf("Long(%v) = %d, want %d", c.l, got, c.want)
		}
	}
	if end != api.MaxNum {
		t.Errorf("MaxNum is %d", api.MaxNum)
	}
}

func TestLongIsHowManyPlaces(t *testing.T) {
	for _, f := range fields() {
		for _, l := range f.lists() {
			want := f.places(f.cells(l...))
			if most := big.NewInt(api.MaxNum); want.Cmp(most) > 0 {
				want = most
			}
			if got := Long(l); int64(got) != want.Int64() {
				t.Fatalf("Long(%v) = %d, want %d", l, got, want)
			}
		}
	}
}

// room is l with others behind it, in the same memory.
func room[T any](l []T, other T) (short, whole []T) {
	whole = slices.Concat(l, slices.Repeat([]T{other}, 8))
	return whole[:len(l)], whole
}

// far is a span that none of the tests below asks of: seen in an answer, it was read where it should not be.
var far = api.Span{From: -1000, To: 1000}

func rows() [][]byte {
	return [][]byte{nil, {}, {0}, {1}, {0x80}, {255}, {0x55, 0xaa}, {255, 255, 255}, {0x80, 1, 0x80, 1, 0x80}}
}

func TestNothingHandedInIsChanged(t *testing.T) {
	for _, f := range fields() {
		for _, handed := range f.lists() {
			l, whole := room(handed, far)
			kept := slices.Clone(whole)
			Norm(l)
			Right(l)
			Long(l)
			for _, s := range []api.Span{{}, far, {From: math.MinInt, To: math.MaxInt}, {From: 1, To: -1}} {
				Has(l, s)
				Holes(l, s)
			}
			if !slices.Equal(whole, kept) {
				t.Fatalf("%v was changed to %v", kept, whole)
			}
		}
	}
	for _, row := range rows() {
		b, whole := room(row, 255)
		kept := slices.Clone(whole)
		Of(b)
		if !slices.Equal(whole, kept) {
			t.Fatalf("%x was changed to %x", kept, whole)
		}
	}
}

func TestNothingBehindTheLengthIsRead(t *testing.T) {
	f := fields()[0]
	for _, handed := range f.lists() {
		l, _ := room(handed, far)
		if !slices.Equal(Norm(l), Norm(handed)) || Right(l) != Right(handed) || Long(l) != Long(handed) {
			t.Fatalf("%v: what lies behind is read", handed)
		}
		for _, s := range f.spans() {
			if Has(l, s) != Has(handed, s) || !slices.Equal(Holes(l, s), Holes(handed, s)) {
				t.Fatalf("%v, %v: what lies behind is read", handed, s)
			}
		}
	}
	for _, row := range rows() {
		b, _ := room(row, 255)
		if !slices.Equal(Of(b), Of(row)) {
			t.Fatalf("%x: what lies behind is read", row)
		}
	}
}

// newMemory makes an answer twice out of what is handed in, writes all over one of them, and looks whether any other memory was hit.
func newMemory[T comparable](t *testing.T, name string, handed []T, other T, answer func(l []T) []api.Span) {
	l, whole := room(handed, other)
	kept := slices.Clone(whole)
	first, second := answer(l), answer(l)
	want := slices.Clone(second)
	for _, s := range first[len(first):cap(first)] {
		if s != (api.Span{}) {
			t.Errorf("%s of %v hands out %v behind its length", name, handed, s)
		}
	}
	for i := range first[:cap(first)] {
		first[:cap(first)][i] = api.Span{From: 77, To: 78}
	}
	if !slices.Equal(whole, kept) {
		t.Errorf("%s of %v shares memory with what was handed in", name, handed)
	}
	if !slices.Equal(second, want) || !slices.Equal(answer(l), want) {
		t.Errorf("%s of %v shares memory with another answer", name, handed)
	}
}

func TestAnswersAreNewMemory(t *testing.T) {
	for _, l := range [][]api.Span{
		nil, {}, of(0, 3), of(3, 3), of(0, 3, 4, 5), of(4, 5, 0, 3), of(0, 3, 3, 5), of(0, 9, 2, 4),
		of(0, 1, 2, 3, 4, 5, 6, 7, 8, 9), of(8, 9, 6, 7, 4, 5, 2, 3, 0, 1, 5, 5), of(0, 1, 1, 2, 2, 3, 3, 4),
	} {
		newMemory(t, "Norm", l, far, Norm)
		newMemory(t, "Norm of Norm", Norm(l), far, Norm)
		for _, s := range of(0, 0, 0, 3, -5, 20, 3, 4, 9, 0, math.MinInt, math.MaxInt) {
			newMemory(t, "Holes", l, far, func(l []api.Span) []api.Span { return Holes(l, s) })
		}
	}
	for _, row := range rows() {
		newMemory(t, "Of", row, 255, Of)
	}
}

func TestNoneAndEmptyAreTheSame(t *testing.T) {
	if len(Norm(nil)) != 0 || len(Norm(of())) != 0 || len(Of(nil)) != 0 || len(Of([]byte{})) != 0 {
		t.Error("of nothing there are spans")
	}
	if !Right(nil) || !Right([]api.Span{}) || Long(nil) != 0 || Long([]api.Span{}) != 0 {
		t.Error("nothing has places, or is not Right")
	}
	for _, s := range fields()[0].spans() {
		if Has(nil, s) != Has([]api.Span{}, s) || !slices.Equal(Holes(nil, s), Holes([]api.Span{}, s)) {
			t.Errorf("of %v, nil is another than nothing", s)
		}
	}
}
