package pack_test

import (
	"bytes"
	"encoding/binary"
	"math"
	"math/big"
	"math/rand"
	"slices"
	"strings"
	"testing"

	"coffers/pack"
)

// slowPut is a number's bytes as the document's words tell them, digit by digit to the base 128.
func slowPut(v *big.Int) []byte {
	var digits []byte
	base := big.NewInt(128)
	left := new(big.Int).Set(v)
	for len(digits) == 0 || left.Sign() > 0 {
		digit := new(big.Int)
		left.DivMod(left, base, digit)
		digits = append(digits, byte(digit.Int64())+128)
	}
	digits[len(digits)-1] -= 128
	return digits
}

// slowTake is the number with whose bytes b begins, and how many they are; none is 0 bytes.
func slowTake(b []byte) (uint64, int) {
	end := slices.IndexFunc(b, func(c byte) bool { return c < 128 })
	if end < 0 {
		return 0, 0
	}
	v := new(big.Int)
	for _, c := range slices.Backward(b[:end+1]) {
		v.Add(v.Lsh(v, 7), big.NewInt(int64(c%128)))
	}
	if !v.IsUint64() || !bytes.Equal(slowPut(v), b[:end+1]) {
		return 0, 0
	}
	return v.Uint64(), end + 1
}

// numbers are the edges of each count of bytes, the powers of two and what lies beside them, small ones and drawn ones.
func numbers() []uint64 {
	list := []uint64{0, 300, math.MaxInt64, math.MaxUint64, 1<<40 + 5, 1 << 50}
	for i := range 64 {
		list = append(list, 1<<i-1, 1<<i, 1<<i+1, math.MaxUint64-1<<i)
	}
	for v := range uint64(700) {
		list = append(list, v)
	}
	draw := rand.New(rand.NewSource(1))
	for i := range 2000 {
		list = append(list, draw.Uint64()>>(i%64))
	}
	return list
}

// strange are bytes of all kinds, right ones and wrong ones.
func strange() [][]byte {
	list := [][]byte{nil, {}}
	for c := range 256 {
		list = append(list, []byte{byte(c)})
		for d := range 256 {
			list = append(list, []byte{byte(c), byte(d)})
		}
	}
	edges := []byte{0, 1, 2, 3, 126, 127, 128, 129, 130, 254, 255}
	for n := range 14 {
		for _, fill := range []byte{128, 129, 255} {
			for _, a := range edges {
				for _, z := range edges {
					list = append(list, append(bytes.Repeat([]byte{fill}, n), a, z))
				}
			}
		}
	}
	draw := rand.New(rand.NewSource(2))
	for range 5000 {
		b := make([]byte, draw.Intn(13))
		draw.Read(b)
		for i := range b {
			b[i] |= byte(draw.Intn(4)/3^1) << 7
		}
		list = append(list, b)
	}
	return list
}

// holdTake: Take(b) answers this number and what is behind these many bytes; with 0 bytes, nothing.
func holdTake(t *testing.T, promise string, b []byte, want uint64, size int) {
	t.Helper()
	v, rest, ok := pack.Take(b)
	if size == 0 {
		if v != 0 || len(rest) != 0 || ok {
			t.Errorf("%s: Take(%x): %d, %x, %t, want 0, nothing, false", promise, b, v, rest, ok)
		}
		return
	}
	if v != want || !bytes.Equal(rest, b[size:]) || !ok {
		t.Errorf("%s: Take(%x): %d, %x, %t, want %d, %x, true", promise, b, v, rest, ok, want, b[size:])
	}
}

// holdText: TakeText(b) answers this text and what is behind.
func holdText(t *testing.T, promise string, b []byte, want string, behind []byte) {
	t.Helper()
	s, rest, ok := pack.TakeText(b)
	if s != want || !bytes.Equal(rest, behind) || !ok {
		t.Errorf("%s: TakeText(%x): %q, %x, %t, want %q, %x, true", promise, b, s, rest, ok, want, behind)
	}
}

// holdNoText: TakeText(b) answers that there is none.
func holdNoText(t *testing.T, promise string, b []byte) {
	t.Helper()
	if s, rest, ok := pack.TakeText(b); s != "" || len(rest) != 0 || ok {
		t.Errorf("%s: TakeText(%x): %q, %x, %t, want an empty text, nothing, false", promise, b, s, rest, ok)
	}
}

// examples are numbers whose bytes are written out.
var examples = []struct {
	v    uint64
	want string
}{
	{0, "\x00"},
	{1, "\x01"},
	{127, "\x7F"},
	{128, "\x80\x01"},
	{129, "\x81\x01"},
	{255, "\xFF\x01"},
	{256, "\x80\x02"},
	{300, "\xAC\x02"},
	{16383, "\xFF\x7F"},
	{16384, "\x80\x80\x01"},
	{1<<40 + 5, "\x85\x80\x80\x80\x80\x20"},
	{1<<56 - 1, "\xFF\xFF\xFF\xFF\xFF\xFF\xFF\x7F"},
	{1<<63 - 1, "\xFF\xFF\xFF\xFF\xFF\xFF\xFF\xFF\x7F"},
	{1 << 63, "\x80\x80\x80\x80\x80\x80\x80\x80\x80\x01"},
	{1<<64 - 2, "\xFE\xFF\xFF\xFF\xFF\xFF\xFF\xFF\xFF\x01"},
	{1<<64 - 1, "\xFF\xFF\xFF\xFF\xFF\xFF\xFF\xFF\xFF\x01"},
}

// TestPutExamples: P2.1, Put lays a number's bytes behind nothing and behind other bytes.
func TestPutExamples(t *testing.T) {
	for _, x := range examples {
		for _, before := range []string{"", "a", "\x80", "some bytes"} {
			if got := string(pack.Put([]byte(before), x.v)); got != before+x.want {
				t.Errorf("P2.1: Put(%q, %d): %x, want %x", before, x.v, got, before+x.want)
			}
		}
		if got := string(pack.Put(nil, x.v)); got != x.want {
			t.Errorf("P2.1: Put(nil, %d): %x, want %x", x.v, got, x.want)
		}
	}
}

// TestTakeExamples: P2.1, Take takes a number's bytes, and answers what is behind them, whatever that is.
func TestTakeExamples(t *testing.T) {
	for _, x := range examples {
		for _, behind := range []string{"", "\x00", "\x80", "\xFF\xFF", "z", x.want} {
			holdTake(t, "P2.1", []byte(x.want+behind), x.v, len(x.want))
		}
	}
}

// TestTooSoon: P2.1, bytes that end ahead of a number's last one.
func TestTooSoon(t *testing.T) {
	for _, s := range []string{"", "\x80", "\x81", "\xAC", "\xFF", "\x80\x80", "\xFF\x80", strings.Repeat("\xFF", 9), strings.Repeat("\x80", 9)} {
		holdTake(t, "P2.1", []byte(s), 0, 0)
	}
	holdTake(t, "P2.1", nil, 0, 0)
}

// TestTakeNone: P2.1, bytes that begin with no number's, whatever stands behind them.
func TestTakeNone(t *testing.T) {
	nine, low := strings.Repeat("\xFF", 9), strings.Repeat("\x80", 9)
	for _, s := range []string{
		"\x80\x00", "\x81\x00", "\xFF\x00", "\x81\x80\x00", "\xFF\x80\x00", low[1:] + "\x00", low + "\x00", nine + "\x00", // more than as few as can be
		nine + "\x02", nine + "\x03", nine + "\x7F", low + "\x02", low + "\x40", // above 2^64 - 1
		nine + "\x80", nine + "\xFF", nine + "\x80\x00", nine + "\x81\x00", nine + "\x80\x01", nine + "\x81\x01", low + "\x80\x01", low + low + low + "\x01", // eleven and more
	} {
		for _, behind := range []string{"", "\x00", "\x00\x01", "\x80\x00z", "\x01"} {
			holdTake(t, "P2.1", []byte(s+behind), 0, 0)
		}
	}
}

// TestPutByWords: P2.1, Put is what the document's words come to, and no more than ten bytes.
func TestPutByWords(t *testing.T) {
	for _, v := range numbers() {
		got, want := pack.Put(nil, v), slowPut(new(big.Int).SetUint64(v))
		if !bytes.Equal(got, want) || !bytes.Equal(got, binary.AppendUvarint(nil, v)) {
			t.Errorf("P2.1: Put(nil, %d): %x, want %x", v, got, want)
		}
		if len(got) < 1 || len(got) > 10 {
			t.Errorf("P2.1: %d has %d bytes", v, len(got))
		}
	}
}

// TestTakeByWords: P2.1, Take is what the document's words come to, of all pairs of bytes and of many others.
func TestTakeByWords(t *testing.T) {
	for _, b := range strange() {
		v, size := slowTake(b)
		holdTake(t, "P2.1", b, v, size)
		v, size = slowTake(append(b, 5))
		holdTake(t, "P2.1", append(b, 5), v, size)
	}
}

// TestTextExamples: P2.2, a text's bytes are those of how many bytes it has, and these.
func TestTextExamples(t *testing.T) {
	for _, x := range []struct{ s, want string }{
		{"", "\x00"},
		{"a", "\x01a"},
		{"bc", "\x02bc"},
		{"\x00", "\x01\x00"},
		{"\x80\xFF", "\x02\x80\xFF"},         // bytes that are no runes
		{"\u00E9\u4E16", "\x05\u00E9\u4E16"}, // five bytes, two runes
		{strings.Repeat("x", 127), "\x7F" + strings.Repeat("x", 127)},
		{strings.Repeat("x", 128), "\x80\x01" + strings.Repeat("x", 128)},
		{strings.Repeat("\x80", 300), "\xAC\x02" + strings.Repeat("\x80", 300)},
		{strings.Repeat("x", 1<<16), "\x80\x80\x04" + strings.Repeat("x", 1<<16)},
	} {
		for _, before := range []string{"", "a", "\x80"} {
			if got := string(pack.Text([]byte(before), x.s)); got != before+x.want {
				t.Errorf("P2.2: Text(%q, %q): %x, want %x", before, x.s, got, before+x.want)
			}
		}
		for _, behind := range []string{"", "\x00", "d", "\x80"} {
			holdText(t, "P2.2", []byte(x.want+behind), x.s, []byte(behind))
		}
	}
}

// TestTextNone: P2.2, bytes that begin with no text's: no size is there, or it is more than the bytes that are left.
func TestTextNone(t *testing.T) {
	for _, s := range []string{
		"", "\x80", "\x80\x00", "\x82\x00ab", "\xFF\xFF\xFF\xFF\xFF\xFF\xFF\xFF\xFF\x02ab", // no size
		"\x01", "\x03bc", "\x7F", "\x80\x01" + strings.Repeat("x", 127),
	} {
		holdNoText(t, "P2.2", []byte(s))
	}
	for _, behind := range []string{"", "a", "abcdefghijkl", strings.Repeat("x", 200)} {
		holdNoText(t, "P2.2", append(slowPut(big.NewInt(int64(len(behind)+1))), behind...))
		for _, size := range numbers() {
			if size > uint64(len(behind)) {
				holdNoText(t, "P2.2", append(slowPut(new(big.Int).SetUint64(size)), behind...))
			}
		}
		for near := range uint64(300) { // as numbers with a sign they would be small, or below 0
			for _, size := range []uint64{math.MaxUint64 - near, math.MaxInt64 - near, 1<<63 + near, 1<<32 + near} {
				holdNoText(t, "P2.2", append(slowPut(new(big.Int).SetUint64(size)), behind...))
			}
		}
	}
}

// TestPutIsTaken: P2.3, what is put is taken, alone and in a row, numbers and texts.
func TestPutIsTaken(t *testing.T) {
	var row []byte
	for _, v := range numbers()[:400] {
		b := pack.Put(nil, v)
		holdTake(t, "P2.3", b, v, len(b))
		row = pack.Text(pack.Put(row, v), string(b))
	}
	for _, v := range numbers()[:400] {
		got, rest, ok := pack.Take(row)
		if got != v || !ok {
			t.Fatalf("P2.3: in a row: %d, %t, want %d", got, ok, v)
		}
		want := string(pack.Put(nil, v))
		s, rest, ok := pack.TakeText(rest)
		if s != want || !ok {
			t.Fatalf("P2.3: in a row: %q, %t, want %q", s, ok, want)
		}
		row = rest
	}
	if len(row) != 0 {
		t.Errorf("P2.3: %d bytes are left of the row", len(row))
	}
}

// TestTakenWasPut: P2.3, what is taken was put so: put anew, with what was behind, it is the same bytes.
func TestTakenWasPut(t *testing.T) {
	for _, b := range strange() {
		if v, rest, ok := pack.Take(b); ok {
			if again := append(pack.Put(nil, v), rest...); !bytes.Equal(again, b) {
				t.Errorf("P2.3: Take(%x): %d, put so: %x", b, v, again)
			}
		}
		if s, rest, ok := pack.TakeText(b); ok {
			if again := append(pack.Text(nil, s), rest...); !bytes.Equal(again, b) {
				t.Errorf("P2.3: TakeText(%x): %q, put so: %x", b, s, again)
			}
		}
	}
}

// TestEndsTooSoon: P2.3, what is put and loses bytes at its end is none.
func TestEndsTooSoon(t *testing.T) {
	for _, v := range numbers() {
		b := pack.Put(nil, v)
		for i := range len(b) {
			holdTake(t, "P2.3", b[:i:i], 0, 0)
			holdTake(t, "P2.3", b[:i], 0, 0) // the bytes in its spare room play no part
		}
	}
	b := pack.Text(nil, strings.Repeat("y", 150))
	for i := range len(b) {
		holdNoText(t, "P2.3", b[:i])
	}
}

// TestHandedIn: rules 3 and 4, what is handed in stays as it is, its spare room too, and answers hang on it no more behind the call.
func TestHandedIn(t *testing.T) {
	for name, put := range map[string]func([]byte) []byte{
		"Put of 5":             func(b []byte) []byte { return pack.Put(b, 5) },
		"Put of 2^64 - 1":      func(b []byte) []byte { return pack.Put(b, math.MaxUint64) },
		"Text of nothing":      func(b []byte) []byte { return pack.Text(b, "") },
		"Text of eleven bytes": func(b []byte) []byte { return pack.Text(b, "some bytes.") },
	} {
		for room := range 40 {
			whole := bytes.Repeat([]byte{'w'}, 3+room)
			first := put(whole[:3])
			kept := bytes.Clone(first)
			second := put(whole[:3])
			if !bytes.Equal(second, kept) {
				t.Errorf("rule 4: %s: %x, then %x", name, kept, second)
			}
			if !bytes.Equal(whole, bytes.Repeat([]byte{'w'}, 3+room)) {
				t.Errorf("rule 3: %s: what was handed in is %q now", name, whole)
			}
			clear(whole)
			clear(second[:cap(second)])
			if !bytes.Equal(first, kept) {
				t.Errorf("rule 3: %s: the answer was %x and is %x now", name, kept, first)
			}
		}
	}
}

// TestCutOff: rule 3, what is behind has no spare room to write into, and a text that was taken stays when its bytes are written over.
func TestCutOff(t *testing.T) {
	whole := []byte("\x02abrest and more")
	kept := bytes.Clone(whole)
	_, rest, _ := pack.Take(whole[:7])
	_ = append(rest, "xyz"...)
	s, rest, _ := pack.TakeText(whole[:7])
	_ = append(rest, "xyz"...)
	if !bytes.Equal(whole, kept) {
		t.Errorf("rule 3: behind what was handed in stands %q now", whole)
	}
	_, rest, _ = pack.TakeText(whole[:3])
	_ = append(rest, "xyz"...)
	if !bytes.Equal(whole, kept) {
		t.Errorf("rule 3: behind what was handed in stands %q now", whole)
	}
	clear(whole)
	if s != "ab" {
		t.Errorf("rule 3: the text that was taken is %q now", s)
	}
}
