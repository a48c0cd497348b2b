package crc_test

import (
	"bytes"
	"math/rand"
	"testing"

	"coffers/crc"
)

// slowly is the sum bit by bit, as the document's words tell it.
func slowly(b []byte) uint32 {
	word := ^uint32(0)
	for _, c := range b {
		word ^= uint32(c)
		for range 8 {
			low := word & 1
			word >>= 1
			if low == 1 {
				word ^= 0xEDB88320
			}
		}
	}
	return ^word
}

// texts are nothing, the nine digits, each single byte, and texts of many lengths and bytes.
func texts() [][]byte {
	list := [][]byte{nil, {}, []byte("123456789"), []byte("abc"), bytes.Repeat([]byte{0}, 40), bytes.Repeat([]byte{255}, 40)}
	for c := range 256 {
		list = append(list, []byte{byte(c)})
	}
	draw := rand.New(rand.NewSource(1))
	for n := range 80 {
		b := make([]byte, n)
		draw.Read(b)
		list = append(list, b)
	}
	return list
}

// TestSumExamples: P1.1, by sums that are known.
func TestSumExamples(t *testing.T) {
	for _, x := range []struct {
		text string
		want uint32
	}{
		{"", 0},
		{"123456789", 0xCBF43926},
		{"\x00", 0xD202EF8D},
		{"\xff", 0xFF000000},
		{"a", 0xE8B7BE43},
		{"abc", 0x352441C2},
		{"\xff\xff\xff\xff", 0xFFFFFFFF},
		{"The quick brown fox jumps over the lazy dog", 0x414FA339},
	} {
		if got := crc.Sum([]byte(x.text)); got != x.want {
			t.Errorf("P1.1: Sum(%q): %#08x, want %#08x", x.text, got, x.want)
		}
	}
}

// TestSumByWords: P1.1, Sum is what the document's words come to.
func TestSumByWords(t *testing.T) {
	for _, b := range texts() {
		if got, want := crc.Sum(b), slowly(b); got != want {
			t.Errorf("P1.1: Sum(%x): %#08x, want %#08x", b, got, want)
		}
	}
	if got := crc.Sum(nil); got != 0 {
		t.Errorf("P1.1: the sum of nothing: %#08x", got)
	}
}

// TestMoreOfAnySum: P1.1, More goes on from any word: each one is the sum of some four bytes.
func TestMoreOfAnySum(t *testing.T) {
	draw := rand.New(rand.NewSource(2))
	for range 500 {
		first := make([]byte, 4)
		draw.Read(first)
		for _, b := range [][]byte{nil, {0}, {255}, []byte("123456789")} {
			got := crc.More(slowly(first), b)
			if want := slowly(append(bytes.Clone(first), b...)); got != want {
				t.Errorf("P1.1: More(sum of %x, %x): %#08x, want %#08x", first, b, got, want)
			}
		}
	}
	for _, sum := range []uint32{0, 1, 15, 16, 1 << 31, ^uint32(0)} {
		if got := crc.More(sum, nil); got != sum {
			t.Errorf("P1.1: More(%#x, nothing): %#x", sum, got)
		}
	}
}

// TestCut: P1.2, a text cut in two at each place has the sum of the whole, by More; also cut in three.
func TestCut(t *testing.T) {
	for _, b := range texts() {
		want := crc.Sum(b)
		for i := range len(b) + 1 {
			if got := crc.More(crc.Sum(b[:i]), b[i:]); got != want {
				t.Errorf("P1.2: %x cut at %d: %#08x, want %#08x", b, i, got, want)
			}
			half := i / 2
			if got := crc.More(crc.More(crc.Sum(b[:half]), b[half:i]), b[i:]); got != want {
				t.Errorf("P1.2: %x cut at %d and %d: %#08x, want %#08x", b, half, i, got, want)
			}
		}
	}
}

// TestOneBit: P1.2, each single bit turned makes another sum, and no two of them the same one.
func TestOneBit(t *testing.T) {
	for _, b := range texts() {
		want := crc.Sum(b)
		seen := map[uint32]int{want: -1}
		for i := range 8 * len(b) {
			turned := bytes.Clone(b)
			turned[i/8] ^= 1 << (i % 8)
			got := crc.Sum(turned)
			if at, ok := seen[got]; ok {
				t.Errorf("P1.2: %x, bit %d turned: %#08x, as with bit %d (-1: none)", b, i, got, at)
			}
			seen[got] = i
		}
	}
}

// TestBitOfSum: P1.2, a bit turned in the first piece shows behind the second one, too.
func TestBitOfSum(t *testing.T) {
	rest := []byte("123456789")
	for i := range 32 {
		sum := crc.Sum([]byte("abc"))
		if crc.More(sum, rest) == crc.More(sum^1<<i, rest) {
			t.Errorf("P1.2: bit %d of the first piece's sum plays no part", i)
		}
	}
}

// TestHandedIn: rules 3 and 4, what is handed in stays as it is, its spare room too, and the answer hangs on the arguments alone.
func TestHandedIn(t *testing.T) {
	whole := []byte("123456789 and more")
	kept := bytes.Clone(whole)
	for range 3 {
		if got := crc.Sum(whole[:9]); got != 0xCBF43926 {
			t.Errorf("P1.1: Sum, called anew: %#08x", got)
		}
		if got := crc.More(crc.Sum(whole[:4]), whole[4:9]); got != 0xCBF43926 {
			t.Errorf("P1.1: More, called anew: %#08x", got)
		}
		if !bytes.Equal(whole, kept) {
			t.Fatalf("rule 3: what was handed in is %q now", whole)
		}
	}
}
