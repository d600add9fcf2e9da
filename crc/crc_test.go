package crc

import (
	"bytes"
	"hash/crc32"
	"math"
	"math/bits"
	"slices"
	"testing"
)

// published is CRC-32C as Go's own library has it.
func published(b []byte) uint32 {
	return crc32.Checksum(b, crc32.MakeTable(crc32.Castagnoli))
}

// draws is a row of numbers without an order to be seen, the same each time.
func draws(seed uint64) func() uint64 {
	return func() uint64 {
		seed += 0x9e3779b97f4a7c15
		n := (seed ^ seed>>30) * 0xbf58476d1ce4e5b9
		n = (n ^ n>>27) * 0x94d049bb133111eb
		return n ^ n>>31
	}
}

func drawn(long int, seed uint64) []byte {
	next := draws(seed)
	b := make([]byte, long)
	for i := range b {
		b[i] = byte(next())
	}
	return b
}

// texts are bytes of many lengths, those around a chunk and a datagram among them.
func texts() [][]byte {
	l := [][]byte{nil, {}, []byte("123456789"), []byte("a")}
	for _, long := range []int{1, 2, 3, 4, 5, 7, 8, 9, 31, 32, 33, 63, 64, 65, 196, 200, 255, 256, 257, 1000} {
		l = append(l, make([]byte, long), bytes.Repeat([]byte{255}, long), drawn(long, uint64(long)))
	}
	return l
}

func TestStep(t *testing.T) {
	for _, c := range []struct{ n, want uint32 }{
		{0, 0},
		{1, 0x82f63b78},
		{2, 1},
		{3, 0x82f63b79},
		{4, 2},
		{5, 0x82f63b7a},
		{0x80000000, 0x40000000},
		{0x80000001, 0xc2f63b78},
		{0xfffffffe, 0x7fffffff},
		{0xffffffff, 0xfd09c487},
		{0x82f63b78, 0x417b1dbc},
	} {
		if got := Step(c.n); got != c.want {
			t.Errorf("Step(%x) = %x, want %x", c.n, got, c.want)
		}
	}
}

func TestStepHalves(t *testing.T) {
	next := draws(1)
	for range 1000 {
		n := uint32(next())
		want := n >> 1
		if n&1 == 1 {
			want ^= 0x82f63b78
		}
		if got := Step(n); got != want {
			t.Fatalf("Step(%x) = %x, want %x", n, got, want)
		}
	}
}

func TestTable(t *testing.T) {
	got, want := Table(), crc32.MakeTable(crc32.Castagnoli)
	for i := range 256 {
		n := uint32(i)
		for range 8 {
			n = Step(n)
		}
		if got[i] != n || got[i] != want[i] {
			t.Errorf("Table()[%x] = %x, eight Steps make %x, published is %x", i, got[i], n, want[i])
		}
	}
}

func TestTableIsNewEachTime(t *testing.T) {
	first, second := Table(), Table()
	if first == second {
		t.Fatal("two Tables are one")
	}
	want := *second
	for i := range first {
		first[i] = ^first[i]
	}
	if *second != want || *Table() != want {
		t.Error("a Table was changed by way of another")
	}
	if got := Sum([]byte("123456789")); got != 0xe3069283 {
		t.Errorf("behind a changed Table, Sum is %x", got)
	}
}

func TestMoreOfNoTable(t *testing.T) {
	for _, b := range texts() {
		for _, n := range []uint32{0, 1, 0xe3069283, math.MaxUint32} {
			if got := More(nil, n, b); got != 0 {
				t.Errorf("More(nil, %x, %x) = %x", n, b, got)
			}
		}
	}
}

func TestMoreOfNoBytes(t *testing.T) {
	for _, n := range []uint32{0, 1, 0x80000000, 0xe3069283, math.MaxUint32} {
		for _, b := range [][]byte{nil, {}} {
			if got := More(Table(), n, b); got != n {
				t.Errorf("More(Table(), %x, nothing) = %x", n, got)
			}
		}
	}
}

func TestMoreGoesByItsTable(t *testing.T) {
	// Of noughts alone nothing is left but the quotients.
	if got := More(new([256]uint32), 0, []byte{7}); got != 0xff000000 {
		t.Errorf("More by noughts, one byte: %x", got)
	}
	ieee := [256]uint32(*crc32.IEEETable)
	if got := More(&ieee, 0, []byte("123456789")); got != 0xcbf43926 {
		t.Errorf("More by another table: %x", got)
	}
}

func TestMoreFromAnyNumber(t *testing.T) {
	next, table := draws(2), crc32.MakeTable(crc32.Castagnoli)
	for _, b := range texts() {
		n := uint32(next())
		if got, want := More(Table(), n, b), crc32.Update(n, table, b); got != want {
			t.Errorf("More(Table(), %x, %x) = %x, want %x", n, b, got, want)
		}
	}
}

func TestMoreBehindMore(t *testing.T) {
	table := Table()
	for _, b := range texts() {
		want := Sum(b)
		for cut := range len(b) + 1 {
			if got := More(table, More(table, 0, b[:cut]), b[cut:]); got != want {
				t.Fatalf("%x, cut at %d: %x, want %x", b, cut, got, want)
			}
		}
		for _, long := range []int{1, 2, 3, 7, 64} {
			n := uint32(0)
			for piece := range slices.Chunk(b, long) {
				n = More(table, n, piece)
			}
			if n != want {
				t.Fatalf("%x, in pieces of %d: %x, want %x", b, long, n, want)
			}
		}
	}
}

func TestSum(t *testing.T) {
	up, down := make([]byte, 32), make([]byte, 32)
	for i := range up {
		up[i], down[31-i] = byte(i), byte(i)
	}
	// All but the first three are published in RFC 3720, B.4.
	for _, c := range []struct {
		b    []byte
		want uint32
	}{
		{nil, 0},
		{[]byte{}, 0},
		{[]byte("123456789"), 0xe3069283},
		{make([]byte, 32), 0x8a9136aa},
		{bytes.Repeat([]byte{255}, 32), 0x62a8ab43},
		{up, 0x46dd794e},
		{down, 0x113fdb5c},
	} {
		if got := Sum(c.b); got != c.want {
			t.Errorf("Sum(%x) = %x, want %x", c.b, got, c.want)
		}
	}
}

func TestSumIsThePublishedOne(t *testing.T) {
	for i := range 256 {
		if b := []byte{byte(i)}; Sum(b) != published(b) {
			t.Errorf("Sum(%x) = %x, want %x", b, Sum(b), published(b))
		}
	}
	for _, b := range append(texts(), drawn(1<<20, 3)) {
		want := published(b)
		if got := Sum(b); got != want {
			t.Errorf("Sum of %d bytes = %x, want %x", len(b), got, want)
		}
		if got := More(Table(), 0, b); got != want {
			t.Errorf("More of %d bytes = %x, want %x", len(b), got, want)
		}
	}
}

func TestNothingBehindTheLengthIsRead(t *testing.T) {
	b := drawn(100, 4)
	for n := range len(b) + 1 {
		if got, want := Sum(b[:n]), published(slices.Clone(b[:n])); got != want {
			t.Errorf("Sum of the first %d = %x, want %x", n, got, want)
		}
	}
	sealed := Seal(b)
	for n := range len(sealed) {
		if Right(sealed[:n]) {
			t.Errorf("the first %d of %d sealed bytes are Right", n, len(sealed))
		}
	}
}

func TestSeal(t *testing.T) {
	for _, c := range []struct{ b, want []byte }{
		{nil, make([]byte, 4)},
		{[]byte{}, make([]byte, 4)},
		{[]byte("123456789"), []byte("123456789\x83\x92\x06\xe3")},
	} {
		if got := Seal(c.b); !bytes.Equal(got, c.want) {
			t.Errorf("Seal(%x) = %x, want %x", c.b, got, c.want)
		}
	}
	for _, b := range texts() {
		n := published(b)
		want := append(slices.Clone(b), byte(n), byte(n>>8), byte(n>>16), byte(n>>24))
		if got := Seal(b); !bytes.Equal(got, want) {
			t.Errorf("Seal(%x) = %x, want %x", b, got, want)
		}
	}
}

func TestSealIsNewMemory(t *testing.T) {
	// Room behind the bytes is where a sum would be laid by mistake.
	room := bytes.Repeat([]byte{170}, 40)
	kept := slices.Clone(room)
	for n := range 30 {
		first, second := Seal(room[:n]), Seal(room[:n])
		want := slices.Clone(second)
		clear(first[:cap(first)])
		if !bytes.Equal(room, kept) {
			t.Fatalf("Seal of %d bytes wrote on what was handed in", n)
		}
		if !bytes.Equal(second, want) {
			t.Fatalf("Seal of %d bytes: one answer was changed by way of another", n)
		}
	}
}

func TestNothingHandedInIsChanged(t *testing.T) {
	table := Table()
	for _, b := range texts() {
		kept := slices.Clone(b)
		More(table, 5, b)
		Sum(b)
		Seal(b)
		Right(b)
		if !bytes.Equal(b, kept) {
			t.Fatalf("%x was changed to %x", kept, b)
		}
	}
	if *table != *Table() {
		t.Error("More changed its table")
	}
}

func TestRightOfWhatIsSealed(t *testing.T) {
	for _, b := range texts() {
		if !Right(Seal(b)) {
			t.Errorf("Right(Seal(%x)) = false", b)
		}
		if !Right(Seal(Seal(b))) {
			t.Errorf("Right of %x, sealed twice, = false", b)
		}
	}
	if !Right([]byte{0, 0, 0, 0}) {
		t.Error("what nothing is sealed as is not Right")
	}
}

func TestRightOfTooFew(t *testing.T) {
	for n := range 4 {
		for _, x := range []byte{0, 1, 255} {
			if b := bytes.Repeat([]byte{x}, n); Right(b) {
				t.Errorf("Right(%x) = true", b)
			}
		}
	}
	if Right(nil) {
		t.Error("Right(nil) = true")
	}
}

func TestRightOfOtherSums(t *testing.T) {
	for _, b := range [][]byte{
		{1, 0, 0, 0},
		{255, 255, 255, 255},
		[]byte("123456789\xe3\x06\x92\x83"),  // the greatest first
		[]byte("123456789\x83\x92\x06"),      // cut short
		[]byte("123456789\x83\x92\x06\xe3a"), // one behind it
		[]byte("a123456789\x83\x92\x06\xe3"), // one ahead of it
		[]byte("123456798\x83\x92\x06\xe3"),  // two in another order
		[]byte("\x83\x92\x06\xe3123456789"),  // the sum in front
		[]byte("123456789\x7c\x6d\xf9\x1c"),  // not turned at the end
	} {
		if Right(b) {
			t.Errorf("Right(%x) = true", b)
		}
	}
	// Noughts in front are part of what is summed up.
	if Right(append(make([]byte, 8), Seal([]byte{5})...)) {
		t.Error("noughts in front are not seen")
	}
}

// bend is b, but that the bits of pattern from the bit at on (the lowest of a byte first) are others.
func bend(b []byte, at int, pattern uint32) []byte {
	b = slices.Clone(b)
	for i := range 32 {
		if pattern>>i&1 == 1 {
			b[(at+i)/8] ^= 1 << ((at + i) % 8)
		}
	}
	return b
}

func TestEachBitIsSeen(t *testing.T) {
	for _, b := range texts() {
		sealed := Seal(b)
		if len(sealed) > 204 {
			continue
		}
		for at := range 8 * len(sealed) {
			sealed[at/8] ^= 1 << (at % 8)
			if Right(sealed) {
				t.Fatalf("%x: bit %d is another, and it is Right", b, at)
			}
			sealed[at/8] ^= 1 << (at % 8)
		}
	}
}

func TestRowsOfBitsAreSeen(t *testing.T) {
	next := draws(5)
	for _, b := range [][]byte{nil, []byte("123456789"), make([]byte, 16), drawn(21, 6)} {
		sealed := Seal(b)
		for long := 1; long <= 32; long++ {
			all := uint32(math.MaxUint32) >> (32 - long)
			ends := uint32(1) | 1<<(long-1)
			for at := range 8*len(sealed) - long + 1 {
				for _, pattern := range []uint32{all, ends, uint32(next())&all | ends} {
					if Right(bend(sealed, at, pattern)) {
						t.Fatalf("%x: bits %b from %d on are others, and it is Right", b, pattern, at)
					}
				}
			}
		}
	}
}

// gap is how the sum that lies behind bytes differs from theirs.
func gap(b []byte) uint32 {
	at := len(b) - 4
	return Sum(b[:at]) ^ uint32(b[at]) ^ uint32(b[at+1])<<8 ^ uint32(b[at+2])<<16 ^ uint32(b[at+3])<<24
}

// Each pattern of 32 bits in a row is seen if none of the bits' gaps is made of others: 2^32 patterns at once.
func TestAllRowsOf32BitsAreSeen(t *testing.T) {
	sealed := Seal(drawn(64, 7))
	for at := range 8*len(sealed) - 31 {
		var byTop [32]uint32
		for i := range 32 {
			n := gap(bend(sealed, at, 1<<i))
			for n != 0 && byTop[bits.Len32(n)-1] != 0 {
				n ^= byTop[bits.Len32(n)-1]
			}
			if n == 0 {
				t.Fatalf("from bit %d on there are 32 bits in a row that may be others unseen", at)
			}
			byTop[bits.Len32(n)-1] = n
		}
	}
}

// The gaps of single bits add up, which TestAllRowsOf32BitsAreSeen leans on.
func TestGapsAddUp(t *testing.T) {
	next, sealed := draws(8), Seal(drawn(64, 9))
	for range 200 {
		at, pattern := int(next()%(8*68-31)), uint32(next())
		want := uint32(0)
		for i := range 32 {
			if pattern>>i&1 == 1 {
				want ^= gap(bend(sealed, at, 1<<i))
			}
		}
		if got := gap(bend(sealed, at, pattern)); got != want {
			t.Fatalf("bits %b from %d on: %x, want %x", pattern, at, got, want)
		}
	}
}
