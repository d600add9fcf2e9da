package word

import (
	"bytes"
	"math"
	"math/big"
	"slices"
	"testing"
)

// ends are numbers of both signs, around nought, around powers of two, and at the ends of numbers.
func ends() []int {
	l := []int{math.MinInt, math.MinInt + 1, math.MaxInt - 1, math.MaxInt}
	for n := -3; n <= 12; n++ {
		l = append(l, n)
	}
	for _, p := range []int{16, 26, 27, 30, 31, 32, 33, 52, 53, 54, 61, 62} {
		for d := -1; d <= 1; d++ {
			l = append(l, 1<<p+d, -(1<<p)+d)
		}
	}
	// The root of the greatest number: products just below and just above it.
	return append(l, 3037000499, 3037000500)
}

func words() []uint64 {
	l := []uint64{0, 1, 7, 255, 256, 258, 0x0102030405060708, 0xf1f2f3f4f5f6f7f8, 0xaaaaaaaaaaaaaaaa, 0x5555555555555555, math.MaxUint64}
	for p := range 64 {
		l = append(l, 1<<p, 1<<p-1, math.MaxUint64<<p)
	}
	return l
}

func TestPut(t *testing.T) {
	for _, c := range []struct {
		n    uint64
		wide int
		want []byte
	}{
		{258, 3, []byte{2, 1, 0}},
		{258, 2, []byte{2, 1}},
		{258, 1, []byte{2}},
		{258, 0, nil},
		{258, -1, nil},
		{258, math.MinInt, nil},
		{0, 8, make([]byte, 8)},
		{0x0102030405060708, 7, []byte{8, 7, 6, 5, 4, 3, 2}},
		{0x0102030405060708, 8, []byte{8, 7, 6, 5, 4, 3, 2, 1}},
		{0x0102030405060708, 9, []byte{8, 7, 6, 5, 4, 3, 2, 1}},
		{0x0102030405060708, math.MaxInt, []byte{8, 7, 6, 5, 4, 3, 2, 1}},
		{math.MaxUint64, 8, bytes.Repeat([]byte{255}, 8)},
	} {
		if got := Put(c.n, c.wide); !bytes.Equal(got, c.want) {
			t.Errorf("Put(%d, %d) = %x, want %x", c.n, c.wide, got, c.want)
		}
	}
}

func TestPutIsNewMemory(t *testing.T) {
	for wide := range 9 {
		first, second := Put(math.MaxUint64, wide), Put(math.MaxUint64, wide)
		clear(first[:cap(first)])
		if !bytes.Equal(second, bytes.Repeat([]byte{255}, wide)) {
			t.Errorf("wide %d: one answer was changed by way of another", wide)
		}
	}
}

func TestGet(t *testing.T) {
	for _, c := range []struct {
		b    []byte
		want uint64
	}{
		{nil, 0},
		{[]byte{}, 0},
		{[]byte{7}, 7},
		{[]byte{2, 1}, 258},
		{[]byte{2, 1, 0}, 258},
		{[]byte{8, 7, 6, 5, 4, 3, 2}, 0x02030405060708},
		{[]byte{8, 7, 6, 5, 4, 3, 2, 1}, 0x0102030405060708},
		{[]byte{8, 7, 6, 5, 4, 3, 2, 1, 99}, 0x0102030405060708},
		{bytes.Repeat([]byte{255}, 1000), math.MaxUint64},
		{[]byte{0, 0, 0, 0, 0, 0, 0, 128, 1, 1}, 1 << 63},
	} {
		kept := slices.Clone(c.b)
		if got := Get(c.b); got != c.want {
			t.Errorf("Get(%x) = %d, want %d", c.b, got, c.want)
		}
		if !bytes.Equal(c.b, kept) {
			t.Errorf("Get changed %x to %x", kept, c.b)
		}
	}
}

func TestGetStopsAtTheLength(t *testing.T) {
	b := bytes.Repeat([]byte{255}, 8)
	for n := range 9 {
		if got, want := Get(b[:n]), uint64(math.MaxUint64)&^(math.MaxUint64<<(8*n)); got != want {
			t.Errorf("Get of %d bytes = %x, want %x", n, got, want)
		}
	}
}

func TestThereAndBack(t *testing.T) {
	for _, n := range words() {
		for wide := -1; wide <= 9; wide++ {
			bits := 8 * min(max(wide, 0), 8)
			want := n &^ (math.MaxUint64 << bits)
			if got := Get(Put(n, wide)); got != want {
				t.Errorf("Get(Put(%x, %d)) = %x, want %x", n, wide, got, want)
			}
		}
		b := Put(n, 8)
		for wide := range 9 {
			if got := Put(Get(b[:wide]), wide); !bytes.Equal(got, b[:wide]) {
				t.Errorf("Put(Get(%x)) = %x", b[:wide], got)
			}
		}
	}
}

// bounded is what Add and Mul have to answer, by numbers that know no end.
func bounded(a, b, most int, exact *big.Int) (int, bool) {
	if a < 0 || b < 0 || exact.Cmp(big.NewInt(int64(most))) > 0 {
		return 0, false
	}
	return int(exact.Int64()), true
}

func TestAdd(t *testing.T) {
	for _, c := range []struct {
		a, b, most int
		want       int
		ok         bool
	}{
		{5, 6, 10, 0, false},
		{5, 5, 10, 10, true},
		{4, 6, 10, 10, true},
		{4, 5, 10, 9, true},
		{0, 0, 0, 0, true},
		{0, 1, 0, 0, false},
		{0, 0, -1, 0, false},
		{-1, 5, 10, 0, false},
		{5, -1, 10, 0, false},
		{-5, -6, 10, 0, false},
		{math.MaxInt, 0, math.MaxInt, math.MaxInt, true},
		{0, math.MaxInt, math.MaxInt, math.MaxInt, true},
		{math.MaxInt - 1, 1, math.MaxInt, math.MaxInt, true},
		{math.MaxInt, 1, math.MaxInt, 0, false},
		{1, math.MaxInt, math.MaxInt, 0, false},
		{math.MaxInt, math.MaxInt, math.MaxInt, 0, false},
		{math.MinInt, math.MinInt, 0, 0, false},
		{0, 0, math.MinInt, 0, false},
		{1, 0, math.MinInt, 0, false},
	} {
		if n, ok := Add(c.a, c.b, c.most); n != c.want || ok != c.ok {
			t.Errorf("Add(%d, %d, %d) = %d, %t", c.a, c.b, c.most, n, ok)
		}
	}
}

func TestMul(t *testing.T) {
	for _, c := range []struct {
		a, b, most int
		want       int
		ok         bool
	}{
		{3, 4, 12, 12, true},
		{3, 4, 13, 12, true},
		{3, 4, 11, 0, false},
		{0, 0, 0, 0, true},
		{0, math.MaxInt, 0, 0, true},
		{math.MaxInt, 0, 0, 0, true},
		{0, 5, -1, 0, false},
		{5, 0, -1, 0, false},
		{1, 1, math.MinInt, 0, false},
		{-3, 4, 12, 0, false},
		{3, -4, 12, 0, false},
		{-3, -4, 12, 0, false},
		{0, -1, 12, 0, false},
		{-1, 0, 12, 0, false},
		{1, math.MaxInt, math.MaxInt, math.MaxInt, true},
		{math.MaxInt, 1, math.MaxInt, math.MaxInt, true},
		{2, math.MaxInt, math.MaxInt, 0, false},
		{math.MaxInt, math.MaxInt, math.MaxInt, 0, false},
		{1 << 32, 1 << 32, math.MaxInt, 0, false},
		{1 << 31, 1 << 32, math.MaxInt, 0, false},
		{1 << 31, 1 << 31, math.MaxInt, 1 << 62, true},
		{math.MinInt, -1, math.MaxInt, 0, false},
	} {
		if n, ok := Mul(c.a, c.b, c.most); n != c.want || ok != c.ok {
			t.Errorf("Mul(%d, %d, %d) = %d, %t", c.a, c.b, c.most, n, ok)
		}
	}
}

func TestNoSumGoesRound(t *testing.T) {
	l := ends()
	for _, a := range l {
		for _, b := range l {
			x, y := big.NewInt(int64(a)), big.NewInt(int64(b))
			sum, product := new(big.Int).Add(x, y), new(big.Int).Mul(x, y)
			for _, most := range l {
				want, wantOK := bounded(a, b, most, sum)
				if n, ok := Add(a, b, most); n != want || ok != wantOK {
					t.Fatalf("Add(%d, %d, %d) = %d, %t, want %d, %t", a, b, most, n, ok, want, wantOK)
				}
				want, wantOK = bounded(a, b, most, product)
				if n, ok := Mul(a, b, most); n != want || ok != wantOK {
					t.Fatalf("Mul(%d, %d, %d) = %d, %t, want %d, %t", a, b, most, n, ok, want, wantOK)
				}
			}
		}
	}
}

func TestCeil(t *testing.T) {
	const end = 1 << 53
	for _, c := range []struct{ n, d, want int }{
		{0, 1, 0},
		{0, 8, 0},
		{0, end, 0},
		{1, 8, 1},
		{7, 8, 1},
		{8, 8, 1},
		{9, 8, 2},
		{16, 8, 2},
		{17, 8, 3},
		{end, 1, end},
		{end - 1, 1, end - 1},
		{end, 2, end / 2},
		{end - 1, 2, end / 2},
		{end, 3, 3002399751580331},
		{end, end - 1, 2},
		{end, end, 1},
		{1, end, 1},
		{5, 0, 0},
		{0, 0, 0},
		{5, -1, 0},
		{-1, 5, 0},
		{-5, -1, 0},
		{end + 1, 1, 0},
		{end + 1, 8, 0},
		{1, end + 1, 0},
		{end + 1, end + 1, 0},
		{math.MaxInt, 1, 0},
		{1, math.MaxInt, 0},
		{math.MinInt, -1, 0},
		{math.MinInt, 1, 0},
		{1, math.MinInt, 0},
	} {
		if got := Ceil(c.n, c.d); got != c.want {
			t.Errorf("Ceil(%d, %d) = %d, want %d", c.n, c.d, got, c.want)
		}
	}
}

func TestCeilIsTheLeast(t *testing.T) {
	const end = 1 << 53
	for _, n := range ends() {
		for _, d := range ends() {
			k := Ceil(n, d)
			if n < 0 || n > end || d < 1 || d > end {
				if k != 0 {
					t.Errorf("Ceil(%d, %d) = %d, want 0", n, d, k)
				}
				continue
			}
			// k d is at least n, and (k - 1) d is below it: by a difference that can't go round.
			over := new(big.Int).Mul(big.NewInt(int64(k)), big.NewInt(int64(d)))
			over.Sub(over, big.NewInt(int64(n)))
			if over.Sign() < 0 || over.Cmp(big.NewInt(int64(d))) >= 0 {
				t.Errorf("Ceil(%d, %d) = %d", n, d, k)
			}
		}
	}
}

func TestSigned(t *testing.T) {
	for _, c := range []struct {
		n    uint64
		wide int
		want int
	}{
		{7, 3, -1},
		{3, 3, 3},
		{4, 3, -4},
		{0, 3, 0},
		{8, 3, 0},
		{15, 3, -1},
		{7, 4, 7},
		{0, 1, 0},
		{1, 1, -1},
		{2, 1, 0},
		{1, 0, -1},
		{2, 0, 0},
		{1, -1, -1},
		{1, math.MinInt, -1},
		{1<<29 - 1, 30, 1<<29 - 1},
		{1 << 29, 30, -(1 << 29)},
		{1<<62 - 1, 63, 1<<62 - 1},
		{1 << 62, 63, -(1 << 62)},
		{1 << 63, 63, 0},
		{math.MaxUint64, 63, -1},
		{1 << 63, 64, 0},
		{1 << 62, 64, -(1 << 62)},
		{1<<63 | 5, 64, 5},
		{math.MaxUint64, math.MaxInt, -1},
		{1 << 63, math.MaxInt, 0},
		{math.MaxUint64, 62, -1},
		{1 << 62, 62, 0},
	} {
		if got := Signed(c.n, c.wide); got != c.want {
			t.Errorf("Signed(%x, %d) = %d, want %d", c.n, c.wide, got, c.want)
		}
	}
}

func TestSignedAtEachWidth(t *testing.T) {
	for _, n := range words() {
		for wide := -2; wide <= 66; wide++ {
			w := uint(min(max(wide, 1), 63))
			power := new(big.Int).Lsh(big.NewInt(1), w)
			want := new(big.Int).Mod(new(big.Int).SetUint64(n), power)
			if want.Bit(int(w)-1) == 1 {
				want.Sub(want, power)
			}
			if got := Signed(n, wide); int64(got) != want.Int64() {
				t.Errorf("Signed(%x, %d) = %d, want %d", n, wide, got, want)
			}
		}
	}
}
