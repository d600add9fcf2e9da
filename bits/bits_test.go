package bits

import (
	"bytes"
	"math"
	"slices"
	"testing"
)

// draws is a row of numbers without an order to be seen, the same each time.
func draws(seed uint64) func() uint64 {
	return func() uint64 {
		seed += 0x9e3779b97f4a7c15
		n := (seed ^ seed>>30) * 0xbf58476d1ce4e5b9
		n = (n ^ n>>27) * 0x94d049bb133111eb
		return n ^ n>>31
	}
}

func drawn(long int, seed uint64) []byte {
	next := draws(seed)
	b := make([]byte, long)
	for i := range b {
		b[i] = byte(next())
	}
	return b
}

func full(long int) []byte { return bytes.Repeat([]byte{255}, long) }

// rows are bits of many lengths: none, all and some of them set, at both ends and in between.
func rows() [][]byte {
	l := [][]byte{nil, {}, {0}, {1}, {7}, {0x80}, {0xfe}, {0x7f}, {255}, {0, 1}, {1, 0}, {0x80, 1}, {255, 1}, {255, 0x7f}, {0, 0x80}, {255, 0, 255}}
	for _, long := range []int{1, 2, 3, 7, 8, 9, 63, 64, 65} {
		l = append(l, make([]byte, long), full(long), drawn(long, uint64(long)), drawn(long, uint64(long)+100))
	}
	return l
}

// places are numbers ahead of, among and behind the bits of so many bytes, and the ends of numbers.
func places(long int) []int {
	l := []int{math.MinInt, math.MinInt + 1, -1 << 32, -65536, -65, -9, -8, -7, -1}
	for i := range 8*long + 20 {
		l = append(l, i)
	}
	return append(l, 65535, 65536, 65537, 1<<31, 1<<32, 1<<53, math.MaxInt-1, math.MaxInt)
}

// spread is which bits there are, one by one, told apart by division alone.
func spread(b []byte) []bool {
	var l []bool
	for _, x := range b {
		for range 8 {
			l = append(l, x%2 == 1)
			x /= 2
		}
	}
	return l
}

// isSet is what Get has to answer.
func isSet(l []bool, i int) bool { return i >= 0 && i < len(l) && l[i] }

func TestSpread(t *testing.T) {
	if got := spread([]byte{1, 0x82}); !slices.Equal(got, []bool{
		true, false, false, false, false, false, false, false,
		false, true, false, false, false, false, false, true,
	}) {
		t.Fatalf("spread is %t", got)
	}
}

func TestExample(t *testing.T) {
	if got := First([]byte{7}, 5); got != 3 {
		t.Errorf("First(07, 5) = %d", got)
	}
	if got := Count([]byte{7}); got != 3 {
		t.Errorf("Count(07) = %d", got)
	}
}

func TestMake(t *testing.T) {
	for _, c := range []struct{ n, want int }{
		{math.MinInt, 0}, {-65536, 0}, {-8, 0}, {-1, 0},
		{0, 0}, {1, 1}, {7, 1}, {8, 1}, {9, 2}, {15, 2}, {16, 2}, {17, 3},
		{511, 64}, {512, 64}, {513, 65},
		{65527, 8191}, {65528, 8191}, {65529, 8192}, {65535, 8192}, {65536, 8192},
		{65537, 8192}, {65544, 8192}, {65545, 8192}, {1 << 32, 8192}, {1 << 53, 8192}, {1<<53 + 1, 8192}, {math.MaxInt, 8192},
	} {
		if got := Make(c.n); !bytes.Equal(got, make([]byte, c.want)) {
			t.Errorf("Make(%d) has %d bytes, want %d, all 0", c.n, len(got), c.want)
		}
	}
}

func TestMakeIsAsFewBytesAsMayBe(t *testing.T) {
	for n := range 65537 {
		if long := len(Make(n)); 8*long < n || 8*(long-1) >= n && n > 0 {
			t.Fatalf("Make(%d) has %d bytes", n, long)
		}
	}
}

func TestGet(t *testing.T) {
	for _, c := range []struct {
		b    []byte
		i    int
		want bool
	}{
		{nil, 0, false},
		{[]byte{}, 0, false},
		{[]byte{1}, 0, true},
		{[]byte{1}, 1, false},
		{[]byte{0x80}, 7, true},
		{[]byte{0x80}, 0, false},
		{[]byte{0, 1}, 8, true},
		{[]byte{0, 1}, 0, false},
		{[]byte{1, 0}, 8, false},
		{[]byte{255}, -1, false},
		{[]byte{255}, -8, false},
		{[]byte{255}, 8, false},
		{[]byte{255}, math.MinInt, false},
		{[]byte{255}, math.MaxInt, false},
	} {
		if got := Get(c.b, c.i); got != c.want {
			t.Errorf("Get(%x, %d) = %t", c.b, c.i, got)
		}
	}
	for _, b := range rows() {
		l := spread(b)
		for _, i := range places(len(b)) {
			if got := Get(b, i); got != isSet(l, i) {
				t.Errorf("Get(%x, %d) = %t", b, i, got)
			}
		}
	}
}

// Only the numbers of bits that Make, First and Right are asked for end at 65536: rows may be longer.
func TestBitsBehindTheMost(t *testing.T) {
	b := make([]byte, 9000)
	for _, i := range []int{65535, 65536, 65537, 71999} {
		with := Set(b, i)
		if !Get(with, i) || Count(with) != 1 {
			t.Errorf("bit %d is not set", i)
		}
		if !Get(Or(b, with), i) || Within(with, b) || !Within(b, with) {
			t.Errorf("bit %d is passed over", i)
		}
	}
	if Get(full(9000), 72000) || Count(Set(b, 72000)) != 0 {
		t.Error("there is a bit 72000 in 9000 bytes")
	}
	if got := Count(full(9000)); got != 72000 {
		t.Errorf("Count of 9000 full bytes = %d", got)
	}
}

func TestSet(t *testing.T) {
	for _, c := range []struct {
		b    []byte
		i    int
		want []byte
	}{
		{nil, 0, nil},
		{[]byte{}, 0, nil},
		{nil, -1, nil},
		{[]byte{0}, 0, []byte{1}},
		{[]byte{0}, 7, []byte{0x80}},
		{[]byte{0, 0}, 8, []byte{0, 1}},
		{[]byte{0, 0}, 15, []byte{0, 0x80}},
		{[]byte{0, 0}, 16, []byte{0, 0}},
		{[]byte{3}, 2, []byte{7}},
		{[]byte{7}, 2, []byte{7}},
		{[]byte{0}, -1, []byte{0}},
		{[]byte{0}, -7, []byte{0}},
		{[]byte{0}, -8, []byte{0}},
		{[]byte{0}, 8, []byte{0}},
		{[]byte{0}, math.MinInt, []byte{0}},
		{[]byte{0}, math.MaxInt, []byte{0}},
	} {
		if got := Set(c.b, c.i); !bytes.Equal(got, c.want) {
			t.Errorf("Set(%x, %d) = %x, want %x", c.b, c.i, got, c.want)
		}
	}
}

// What is set is had, and nothing else is more.
func TestWhatIsSetIsHad(t *testing.T) {
	for _, b := range rows() {
		want := spread(b)
		for _, i := range places(len(b)) {
			got := spread(Set(b, i))
			if i < 0 || i >= len(want) {
				if !slices.Equal(got, want) {
					t.Fatalf("Set(%x, %d), a bit that there is not, is another row", b, i)
				}
				continue
			}
			was := want[i]
			want[i] = true
			if !slices.Equal(got, want) {
				t.Fatalf("Set(%x, %d) has other bits", b, i)
			}
			want[i] = was
		}
	}
}

func TestBitsSetOneBehindTheOther(t *testing.T) {
	next := draws(1)
	for _, n := range []int{1, 7, 8, 9, 200, 512} {
		b, had := Make(n), map[int]bool{}
		for range 2 * n {
			i := int(next() % uint64(n))
			b, had[i] = Set(b, i), true
			for j := range n {
				if Get(b, j) != had[j] {
					t.Fatalf("of %d bits, bit %d is %t behind Set of %d", n, j, Get(b, j), i)
				}
			}
			if Count(b) != len(had) || !Right(b, n) {
				t.Fatalf("of %d bits, %d were set: %x", n, len(had), b)
			}
		}
	}
}

func TestCount(t *testing.T) {
	for _, c := range []struct {
		b    []byte
		want int
	}{
		{nil, 0}, {[]byte{}, 0}, {[]byte{0}, 0}, {[]byte{7}, 3}, {[]byte{0x80}, 1}, {[]byte{255}, 8},
		{[]byte{1, 0, 0x80}, 2}, {[]byte{255, 255, 255}, 24}, {full(8192), 65536}, {make([]byte, 8192), 0},
	} {
		if got := Count(c.b); got != c.want {
			t.Errorf("Count of %d bytes = %d, want %d", len(c.b), got, c.want)
		}
	}
	for x := range 256 {
		want := 0
		for _, is := range spread([]byte{byte(x)}) {
			if is {
				want++
			}
		}
		if got := Count([]byte{byte(x)}); got != want {
			t.Errorf("Count(%x) = %d, want %d", x, got, want)
		}
	}
	next := draws(2)
	for range 100 {
		b := drawn(int(next()%100), next())
		want := 0
		for i := range 8 * len(b) {
			if Get(b, i) {
				want++
			}
		}
		if got := Count(b); got != want {
			t.Errorf("Count(%x) = %d, want %d", b, got, want)
		}
	}
}

func TestFirst(t *testing.T) {
	for _, c := range []struct {
		b       []byte
		n, want int
	}{
		{[]byte{7}, 5, 3},
		{[]byte{7}, 4, 3},
		{[]byte{7}, 3, 3},
		{[]byte{7}, 2, 2},
		{[]byte{7}, 1, 1},
		{[]byte{7}, 0, 0},
		{[]byte{7}, -1, 0},
		{[]byte{7}, math.MinInt, 0},
		{[]byte{0xf7}, 8, 3},
		{[]byte{0xfe}, 8, 0},
		{[]byte{0}, 8, 0},
		{[]byte{0x80}, 8, 0},
		{[]byte{255, 0x7f}, 16, 15},
		{[]byte{255, 255}, 16, 16},
		{[]byte{255, 255}, 15, 15},
		{[]byte{255, 255}, 8, 8},
		{[]byte{255, 0}, 16, 8},
		{[]byte{255, 0, 255}, 24, 8},
		// A bit that there is not is not set.
		{nil, 0, 0},
		{nil, 5, 0},
		{[]byte{}, 5, 0},
		{nil, -5, 0},
		{[]byte{255}, 9, 8},
		{[]byte{255}, 100, 8},
		{[]byte{255, 255}, math.MaxInt, 16},
		{[]byte{7}, math.MaxInt, 3},
		{full(8191), 65536, 65528},
		{full(8192), 65535, 65535},
		{full(8192), 65536, 65536},
		{full(8192), 65537, 65536},
		{full(8192), math.MaxInt, 65536},
		// Bits from 65536 on are not asked for.
		{full(9000), 65536, 65536},
		{full(9000), 65537, 65536},
		{full(9000), 72000, 65536},
		{full(9000), 72001, 65536},
		{full(9000), math.MaxInt, 65536},
		{append(full(8191), 0x7f), math.MaxInt, 65535},
		{append(full(8192), 0), math.MaxInt, 65536},
		{make([]byte, 9000), math.MaxInt, 0},
	} {
		if got := First(c.b, c.n); got != c.want {
			t.Errorf("First of %d bytes, %d = %d, want %d", len(c.b), c.n, got, c.want)
		}
	}
}

func TestFirstIsTheLeast(t *testing.T) {
	l := rows()
	for long := range 4 {
		for i := range 8 * long {
			// All but one are set.
			b := full(long)
			b[i/8] ^= 1 << (i % 8)
			l = append(l, b)
		}
	}
	for _, b := range l {
		is := spread(b)
		for _, n := range places(len(b)) {
			end, want := min(max(n, 0), 65536), 0
			for want < end && isSet(is, want) {
				want++
			}
			if got := First(b, n); got != want {
				t.Errorf("First(%x, %d) = %d, want %d", b, n, got, want)
			}
		}
	}
}

func TestRight(t *testing.T) {
	for _, c := range []struct {
		b    []byte
		n    int
		want bool
	}{
		{nil, 0, true},
		{[]byte{}, 0, true},
		{[]byte{0}, 0, false},
		{nil, 1, false},
		{nil, -1, false},
		{nil, -8, false},
		{[]byte{}, -1, false},
		{nil, math.MinInt, false},
		{[]byte{7}, 3, true},
		{[]byte{7}, 8, true},
		{[]byte{7}, 2, false},
		{[]byte{7}, 1, false},
		{[]byte{8}, 3, false},
		{[]byte{0x80}, 7, false},
		{[]byte{0x80}, 8, true},
		{[]byte{7}, 9, false},
		{[]byte{7, 0}, 8, false},
		{[]byte{7, 0}, 9, true},
		{[]byte{255, 1}, 9, true},
		{[]byte{255, 2}, 9, false},
		{[]byte{0, 0x80}, 15, false},
		{[]byte{0, 0x80}, 16, true},
		{[]byte{0, 0, 0}, 16, false},
		{[]byte{0}, 16, false},
		{full(8191), 65528, true},
		{full(8191), 65529, false},
		{full(8192), 65536, true},
		{full(8192), 65535, false},
		{append(full(8191), 0x7f), 65535, true},
		// None has more than 65536 bits, though Make clips to that.
		{full(8192), 65537, false},
		{make([]byte, 8192), 65537, false},
		{make([]byte, 8193), 65537, false},
		{make([]byte, 8193), 65536, false},
		{make([]byte, 8193), 65544, false},
		{make([]byte, 8192), math.MaxInt, false},
		{nil, math.MaxInt, false},
		{nil, 1<<53 + 1, false},
	} {
		if got := Right(c.b, c.n); got != c.want {
			t.Errorf("Right of %d bytes, %d = %t", len(c.b), c.n, got)
		}
	}
}

func TestRightIsAsItIsMade(t *testing.T) {
	for n := range 200 {
		b := Make(n)
		if !Right(b, n) {
			t.Errorf("Make(%d) is not Right", n)
		}
		if Right(append(Make(n), 0), n) {
			t.Errorf("one byte too many is Right of %d", n)
		}
		if n > 0 && Right(b[:len(b)-1], n) {
			t.Errorf("one byte too few is Right of %d", n)
		}
		for i := range 8 * len(b) {
			if got := Right(Set(b, i), n); got != (i < n) {
				t.Errorf("bit %d of %d: Right is %t", i, n, got)
			}
		}
		if 8*len(b) > n && Right(full(len(b)), n) {
			t.Errorf("full bytes are Right of %d", n)
		}
	}
}

func TestOr(t *testing.T) {
	for _, c := range []struct{ a, b, want []byte }{
		{nil, nil, nil},
		{nil, []byte{}, nil},
		{nil, []byte{7}, []byte{7}},
		{[]byte{7}, nil, []byte{7}},
		{[]byte{1}, []byte{2}, []byte{3}},
		{[]byte{3}, []byte{6}, []byte{7}},
		{[]byte{0x0f}, []byte{0xf0, 1}, []byte{255, 1}},
		{[]byte{0xf0, 1}, []byte{0x0f}, []byte{255, 1}},
		{[]byte{1}, []byte{0, 0, 0}, []byte{1, 0, 0}},
		{[]byte{0, 0, 0}, []byte{1}, []byte{1, 0, 0}},
		{nil, []byte{0, 0}, []byte{0, 0}},
	} {
		if got := Or(c.a, c.b); !bytes.Equal(got, c.want) {
			t.Errorf("Or(%x, %x) = %x, want %x", c.a, c.b, got, c.want)
		}
	}
}

func TestOrHasTheBitsOfEither(t *testing.T) {
	for _, a := range rows() {
		for _, b := range rows() {
			got, inA, inB := Or(a, b), spread(a), spread(b)
			if len(got) != max(len(a), len(b)) {
				t.Fatalf("Or of %d and %d bytes has %d", len(a), len(b), len(got))
			}
			for i, is := range spread(got) {
				if is != (isSet(inA, i) || isSet(inB, i)) {
					t.Fatalf("Or(%x, %x) = %x: bit %d", a, b, got, i)
				}
			}
		}
	}
}

func TestWithin(t *testing.T) {
	for _, c := range []struct {
		a, b []byte
		want bool
	}{
		{nil, nil, true},
		{nil, []byte{}, true},
		{nil, []byte{7}, true},
		{[]byte{}, []byte{0}, true},
		{[]byte{0}, nil, true},
		{[]byte{0, 0, 0}, []byte{1}, true},
		{[]byte{1}, nil, false},
		{[]byte{1}, []byte{1}, true},
		{[]byte{1}, []byte{7}, true},
		{[]byte{7}, []byte{1}, false},
		{[]byte{5}, []byte{7}, true},
		{[]byte{5}, []byte{6}, false},
		{[]byte{1}, []byte{1, 255}, true},
		{[]byte{1, 0}, []byte{1}, true},
		{[]byte{1, 1}, []byte{255}, false},
		{[]byte{0, 0x80}, []byte{255}, false},
		{[]byte{0, 1}, []byte{1, 0}, false},
		{[]byte{0x80}, []byte{0x7f}, false},
	} {
		if got := Within(c.a, c.b); got != c.want {
			t.Errorf("Within(%x, %x) = %t", c.a, c.b, got)
		}
	}
}

func TestWithinIsEachBit(t *testing.T) {
	for _, a := range rows() {
		for _, b := range rows() {
			want, inB := true, spread(b)
			for i, is := range spread(a) {
				want = want && (!is || isSet(inB, i))
			}
			if got := Within(a, b); got != want {
				t.Fatalf("Within(%x, %x) = %t", a, b, got)
			}
			if !Within(a, Or(a, b)) || !Within(b, Or(a, b)) {
				t.Fatalf("%x, %x: not Within their Or", a, b)
			}
		}
		for i := range 8 * len(a) {
			if with := Set(a, i); !Within(a, with) || Within(with, a) != Get(a, i) {
				t.Fatalf("%x and bit %d: Within", a, i)
			}
		}
	}
}

func TestNoneAndEmptyAreTheSame(t *testing.T) {
	for _, n := range []int{-1, 0, 1, 8, 65536, 65537} {
		if Get(nil, n) != Get([]byte{}, n) || First(nil, n) != First([]byte{}, n) || Right(nil, n) != Right([]byte{}, n) {
			t.Errorf("of %d, nil is another than nothing", n)
		}
		if len(Set(nil, n)) != 0 || len(Set([]byte{}, n)) != 0 {
			t.Errorf("Set of %d makes bytes", n)
		}
	}
}

// room is b with other bytes behind it, in the same memory.
func room(b []byte) (short, whole []byte) {
	whole = slices.Concat(b, full(16))
	return whole[:len(b)], whole
}

func TestNothingHandedInIsChanged(t *testing.T) {
	for _, row := range rows() {
		a, wholeA := room(row)
		b, wholeB := room(drawn(5, 3))
		keptA, keptB := slices.Clone(wholeA), slices.Clone(wholeB)
		for _, i := range places(len(a)) {
			Get(a, i)
			Set(a, i)
			First(a, i)
			Right(a, i)
		}
		Count(a)
		Or(a, b)
		Or(b, a)
		Within(a, b)
		Within(b, a)
		if !bytes.Equal(wholeA, keptA) || !bytes.Equal(wholeB, keptB) {
			t.Fatalf("%x was changed", row)
		}
	}
}

func TestNothingBehindTheLengthIsRead(t *testing.T) {
	for _, row := range rows() {
		b, _ := room(row)
		for _, n := range places(len(row)) {
			if Get(b, n) != Get(row, n) || First(b, n) != First(row, n) || Right(b, n) != Right(row, n) || !bytes.Equal(Set(b, n), Set(row, n)) {
				t.Fatalf("%x, %d: what lies behind is read", row, n)
			}
		}
		if Count(b) != Count(row) || !Within(b, row) || Within(full(len(row)+1), b) {
			t.Fatalf("%x: what lies behind is read", row)
		}
		if !bytes.Equal(Or(b, nil), row) || !bytes.Equal(Or(nil, b), row) {
			t.Fatalf("Or of %x: what lies behind is read", row)
		}
	}
}

// newMemory makes an answer twice out of b, writes all over one of them, and looks whether b or the other one was hit.
func newMemory(t *testing.T, name string, row []byte, answer func(b []byte) []byte) {
	b, whole := room(row)
	kept := slices.Clone(whole)
	first, second := answer(b), answer(b)
	want := slices.Clone(second)
	for _, x := range first[len(first):cap(first)] {
		if x != 0 {
			t.Errorf("%s of %x: what lay behind is handed out", name, row)
		}
	}
	for i := range first[:cap(first)] {
		first[:cap(first)][i] ^= 255
	}
	if !bytes.Equal(whole, kept) {
		t.Errorf("%s of %x shares memory with what was handed in", name, row)
	}
	if !bytes.Equal(second, want) || !bytes.Equal(answer(b), want) {
		t.Errorf("%s of %x shares memory with another answer", name, row)
	}
}

func TestAnswersAreNewMemory(t *testing.T) {
	for _, row := range rows() {
		newMemory(t, "Make", row, func(b []byte) []byte { return Make(8 * len(b)) })
		newMemory(t, "Or with nothing", row, func(b []byte) []byte { return Or(b, nil) })
		newMemory(t, "Or of nothing", row, func(b []byte) []byte { return Or(nil, b) })
		newMemory(t, "Or with itself", row, func(b []byte) []byte { return Or(b, b) })
		newMemory(t, "Or with more", row, func(b []byte) []byte { return Or(b, full(len(b)+1)) })
		for _, i := range []int{math.MinInt, -1, 0, 7, 8*len(row) - 1, 8 * len(row), math.MaxInt} {
			newMemory(t, "Set", row, func(b []byte) []byte { return Set(b, i) })
		}
	}
}
