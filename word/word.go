// Package word is layer 1: see shared/doc/01-word.md.
package word

import "slices"

// maxNum is api's MaxNum, written once more, because this layer stands on nothing.
const maxNum = 1 << 53

// inWord is how many bytes a number has.
const inWord = 8

// Put is a number as bytes, the least first, Get the way back.
func Put(n uint64, wide int) []byte {
	b := make([]byte, clip(wide, 0, inWord))
	for i := range len(b) {
		b[i] = byte(n >> (8 * i))
	}
	return b
}

func Get(b []byte) uint64 {
	var n uint64
	for _, x := range slices.Backward(b[:min(len(b), inWord)]) {
		n = n<<8 | uint64(x)
	}
	return n
}

// Add and Mul are a sum, a product, up to a most; false: there is none.
func Add(a, b, most int) (int, bool) {
	// What is left below most is held against b, because a + b itself may go round.
	if a < 0 || b < 0 || a > most || b > most-a {
		return 0, false
	}
	return a + b, true
}

func Mul(a, b, most int) (int, bool) {
	if a < 0 || b < 0 || most < 0 {
		return 0, false
	}
	// Divided, because a times b itself may go round.
	if b > 0 && a > most/b {
		return 0, false
	}
	return a * b, true
}

// Ceil is a quotient, rounded up.
func Ceil(n, d int) int {
	if n < 0 || n > maxNum || d < 1 || d > maxNum {
		return 0
	}
	k := n / d
	if n%d > 0 {
		k++
	}
	return k
}

// Signed is a number's lowest bits, the greatest of them its sign.
func Signed(n uint64, wide int) int {
	// Up to the top and down again: the way down fills in the sign.
	shift := 64 - clip(wide, 1, 63)
	return int(int64(n<<shift) >> shift)
}

func clip(n, least, greatest int) int {
	return min(max(n, least), greatest)
}
