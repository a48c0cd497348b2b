package frame_test

import (
	"bytes"
	"encoding/binary"
	"hash/crc32"
	"math"
	"math/rand"
	"slices"
	"strconv"
	"strings"
	"testing"

	"coffers/frame"
)

// slowText is a text as layer 2 has it: how many bytes, and they.
func slowText(payload []byte) []byte {
	return append(binary.AppendUvarint(nil, uint64(len(payload))), payload...)
}

// summed are bytes, and their sum behind them, the lowest byte first.
func summed(b []byte) []byte {
	return binary.LittleEndian.AppendUint32(slices.Clone(b), crc32.ChecksumIEEE(b))
}

// slowFrame is a frame as the chapter's words have it.
func slowFrame(payload []byte) []byte {
	return summed(slowText(payload))
}

// slowScan is a scan by the chapter's words: as long as there are some bytes with whose frame the rest begins, these.
func slowScan(b []byte) (list [][]byte, size int) {
	for found := true; found; {
		found = false
		for n := 0; n <= len(b)-size && !found; n++ {
			rest := b[size:]
			from := len(binary.AppendUvarint(nil, uint64(n)))
			if from+n+4 > len(rest) {
				break
			}
			payload := rest[from : from+n]
			if bytes.HasPrefix(rest, slowFrame(payload)) {
				list, size, found = append(list, payload), size+from+n+4, true
			}
		}
	}
	return list, size
}

// row is the frames of some bytes, one behind the other.
func row(payloads ...[]byte) []byte {
	var out []byte
	for _, p := range payloads {
		out = append(out, slowFrame(p)...)
	}
	return out
}

// drawn are n bytes of all kinds.
func drawn(draw *rand.Rand, n int) []byte {
	b := make([]byte, n)
	draw.Read(b)
	return b
}

// shown are bytes as text, not all where they are many.
func shown(b []byte) string {
	out := strconv.Quote(string(b[:min(len(b), 40)]))
	if len(b) > 40 {
		out += " .. (" + strconv.Itoa(len(b)) + ")"
	}
	return out
}

// roomy are the same bytes, in memory that has room behind them, all of it '#'.
func roomy(b []byte, room int) []byte {
	all := bytes.Repeat([]byte{'#'}, len(b)+room)
	copy(all, b)
	return all[:len(b):len(all)]
}

// copied is the same list, in memory of its own.
func copied(list [][]byte) [][]byte {
	var out [][]byte
	for _, p := range list {
		out = append(out, slices.Clone(p))
	}
	return out
}

// same: are two lists alike, element by element?
func same(a, b [][]byte) bool {
	return slices.EqualFunc(a, b, bytes.Equal)
}

// holdPut: Put answers what was handed in, and the frame behind it, and changes nothing of what it was handed, nor of the room behind.
func holdPut(t *testing.T, promise string, b, payload []byte) {
	t.Helper()
	wasB, wasPayload := slices.Clone(b[:cap(b)]), slices.Clone(payload[:cap(payload)])
	got := frame.Put(b, payload)
	if want := slices.Concat(wasB[:len(b)], slowFrame(wasPayload[:len(payload)])); !bytes.Equal(got, want) {
		t.Errorf("%s: Put(%s, %s): %s, want %s", promise, shown(b), shown(payload), shown(got), shown(want))
	}
	if !bytes.Equal(b[:cap(b)], wasB) || !bytes.Equal(payload[:cap(payload)], wasPayload) {
		t.Errorf("rule 3: Put(%s, %s) changed what was handed in", shown(b), shown(payload))
	}
}

// holdScan: Scan answers this list and this size, and changes nothing of what it was handed, nor of the room behind.
func holdScan(t *testing.T, promise string, b []byte, want [][]byte, size int) {
	t.Helper()
	was := slices.Clone(b[:cap(b)])
	got, n := frame.Scan(b)
	if !same(got, want) || n != size {
		t.Errorf("%s: Scan(%s): %d frames, %d, want %d frames, %d", promise, shown(b), len(got), n, len(want), size)
	}
	if !bytes.Equal(b[:cap(b)], was) {
		t.Errorf("rule 3: Scan(%s) changed what was handed in", shown(b))
	}
}

// holdNone: Scan finds no frame at the beginning of b, nor behind a frame that is whole what it doesn't find at the beginning; whatever stands behind b.
func holdNone(t *testing.T, promise string, b []byte) {
	t.Helper()
	first := []byte("first")
	for _, behind := range [][]byte{nil, row(nil), row([]byte("behind"), nil)} {
		all := slices.Concat(b, behind)
		holdScan(t, promise, all, nil, 0)
		ahead := row(first)
		holdScan(t, promise, slices.Concat(ahead, all), [][]byte{first}, len(ahead))
	}
}

// examples are bytes, and their frames written out.
var examples = []struct{ payload, want string }{
	{"", "\x00\x8D\xEF\x02\xD2"},
	{"\x00", "\x01\x00\xBE\x23\xC2\x58"},
	{"a", "\x01a\x70\x72\x77\x62"},
	{"abc", "\x03abc\x22\xE8\x94\xF9"},
	{"123456789", "\x09123456789\x34\x6E\x62\x32"},
	{"\xFF\xFF\xFF\xFF", "\x04\xFF\xFF\xFF\xFF\x3E\x71\x19\xED"},
	{strings.Repeat("x", 127), "\x7F" + strings.Repeat("x", 127) + "\xAE\x41\x1F\x37"},
	{strings.Repeat("x", 128), "\x80\x01" + strings.Repeat("x", 128) + "\x1A\x9D\xBC\xBB"},
	{strings.Repeat("y", 16383), "\xFF\x7F" + strings.Repeat("y", 16383) + "\x9F\x21\xB5\xCE"},
	{strings.Repeat("y", 16384), "\x80\x80\x01" + strings.Repeat("y", 16384) + "\x03\x42\x39\xB4"},
	{strings.Repeat("z", 1<<21), "\x80\x80\x80\x01" + strings.Repeat("z", 1<<21) + "\xDB\x78\xED\xEA"},
}

// TestExamples: P8.1, frames that are written out are put so, have that size, and are scanned.
func TestExamples(t *testing.T) {
	for _, x := range examples {
		for _, before := range []string{"", "x", "\x00", "some bytes", examples[0].want} {
			if got := string(frame.Put([]byte(before), []byte(x.payload))); got != before+x.want {
				t.Errorf("P8.1: Put(%q, %s): %s, want %s", before, shown([]byte(x.payload)), shown([]byte(got)), shown([]byte(before+x.want)))
			}
		}
		if got := frame.Size(len(x.payload)); got != len(x.want) {
			t.Errorf("P8.1: Size(%d): %d, want %d", len(x.payload), got, len(x.want))
		}
		holdScan(t, "P8.1", []byte(x.want), [][]byte{[]byte(x.payload)}, len(x.want))
	}
	if got := string(frame.Put(nil, nil)); got != examples[0].want {
		t.Errorf("P8.1: Put(nil, nil): %q", got)
	}
}

// TestPut: P8.1, behind nothing, behind bytes, and behind a list with room of each size behind it, for payloads of all kinds and lengths.
func TestPut(t *testing.T) {
	draw := rand.New(rand.NewSource(81))
	for _, n := range []int{0, 1, 2, 3, 4, 5, 126, 127, 128, 129, 300, 16383, 16384, 16385, 100000} {
		for _, payload := range [][]byte{make([]byte, n), bytes.Repeat([]byte{255}, n), drawn(draw, n), roomy(drawn(draw, n), 50)} {
			holdPut(t, "P8.1", nil, payload)
			for _, before := range [][]byte{{}, {'b'}, {0}, {128}, []byte("some bytes"), row([]byte("abc")), row(nil, payload)} {
				for _, room := range []int{0, 1, 2, 4, 5, 6, n, n + 5, n + 6, n + 100} {
					holdPut(t, "P8.1", roomy(before, room), payload)
				}
			}
		}
	}
	holdPut(t, "P8.1", []byte("b"), nil)
	holdPut(t, "P8.1", nil, nil)
}

// TestPutOfItself: P8.1, the payload may be the bytes it is put behind, a piece of them, or the room behind them.
func TestPutOfItself(t *testing.T) {
	whole := []byte("some bytes, and more of them, and more of them than those")
	for i := range whole {
		for _, payload := range [][]byte{whole[:i], whole[i:], whole[i/2 : i], whole} {
			holdPut(t, "P8.1", whole[:i], payload)
			holdPut(t, "P8.1", whole[i:], payload)
		}
	}
}

// TestSize: P8.1, Size is how many bytes Put lays behind; below 0 it counts as 0.
func TestSize(t *testing.T) {
	for n := range 600 {
		if got, want := frame.Size(n), len(slowFrame(make([]byte, n))); got != want {
			t.Errorf("P8.1: Size(%d): %d, want %d", n, got, want)
		}
		if got := len(frame.Put(nil, make([]byte, n))); got != frame.Size(n) {
			t.Errorf("P8.1: Size(%d): %d, but %d are put", n, frame.Size(n), got)
		}
	}
	for n, want := range map[int]int{
		math.MinInt: 5, math.MinInt + 1: 5, math.MinInt32: 5, -16384: 5, -129: 5, -128: 5, -127: 5, -2: 5, -1: 5,
		0: 5, 1: 6, 126: 131, 127: 132, 128: 134, 129: 135, 300: 306, 16383: 16389, 16384: 16391, 65536: 65543,
		1<<21 - 1: 1<<21 - 1 + 7, 1 << 21: 1<<21 + 8, 1<<28 - 1: 1<<28 - 1 + 8, 1 << 28: 1<<28 + 9, 1<<31 - 1: 1<<31 - 1 + 9,
		1<<35 - 1: 1<<35 - 1 + 9, 1 << 35: 1<<35 + 10, 1 << 42: 1<<42 + 11, 1 << 49: 1<<49 + 12, 1 << 56: 1<<56 + 13, 1 << 61: 1<<61 + 13,
	} {
		if got := frame.Size(n); got != want {
			t.Errorf("P8.1: Size(%d): %d, want %d", n, got, want)
		}
	}
	// As many as there can be: no answer is promised, but that there is one.
	for near := range 20 {
		frame.Size(math.MaxInt - near)
	}
}

// TestScan: P8.1, of nothing, of one frame, and of many; of frames with more behind them that is none.
func TestScan(t *testing.T) {
	holdScan(t, "P8.1", nil, nil, 0)
	holdScan(t, "P8.1", []byte{}, nil, 0)
	holdScan(t, "P8.1", roomy(nil, 20), nil, 0)
	draw := rand.New(rand.NewSource(82))
	wrong := row([]byte("wrong"))
	wrong[7]++
	for range 300 {
		var list [][]byte
		for range draw.Intn(8) {
			list = append(list, drawn(draw, draw.Intn(5)*draw.Intn(60)))
		}
		b := row(list...)
		for _, behind := range []string{"", "\x00", "\x07", "\x80", "\xFF\xFF", "\x00\x00\x00\x00\x00", "\x00\x8D\xEF\x02", "\x00\x8D\xEF\x02\xD3", "\x80\x00\x8D\xEF\x02\xD2", "more, of no kind", string(wrong), string(wrong) + string(b)} {
			holdScan(t, "P8.1", slices.Concat(b, []byte(behind)), list, len(b))
			holdScan(t, "P8.1", roomy(slices.Concat(b, []byte(behind)), 30), list, len(b))
		}
	}
}

// TestScanMany: P8.1, of as many frames as there are bytes for.
func TestScanMany(t *testing.T) {
	for _, payload := range []string{"", "a", strings.Repeat("b", 128)} {
		const times = 100000
		one := slowFrame([]byte(payload))
		list, size := frame.Scan(bytes.Repeat(one, times))
		if len(list) != times || size != times*len(one) {
			t.Fatalf("P8.1: %d frames of %d bytes: %d, %d", times, len(payload), len(list), size)
		}
		for i, p := range list {
			if string(p) != payload {
				t.Fatalf("P8.1: %d frames of %d bytes: the one at %d is %s", times, len(payload), i, shown(p))
			}
		}
	}
}

// TestByWords: P8.1, bytes of all kinds, right frames and wrong ones, come to what the words come to.
func TestByWords(t *testing.T) {
	draw := rand.New(rand.NewSource(83))
	for range 6000 {
		var b []byte
		for range draw.Intn(5) {
			text := slowText(drawn(draw, draw.Intn(6)*draw.Intn(40)))
			piece := summed(text)
			switch draw.Intn(9) {
			case 0:
				piece[draw.Intn(len(piece))] ^= 1 << draw.Intn(8)
			case 1:
				piece = piece[:draw.Intn(len(piece))]
			case 2:
				piece = slices.Insert(piece, draw.Intn(len(piece)), byte(draw.Intn(256)))
			case 3:
				text[0] += byte(draw.Intn(5)) - 2
				piece = summed(text)
			}
			b = append(b, piece...)
		}
		list, size := slowScan(b)
		holdScan(t, "P8.1", b, list, size)
	}
	for c := range 256 {
		for d := range 256 {
			b := summed([]byte{byte(c), byte(d)})
			list, size := slowScan(b)
			holdScan(t, "P8.1", b, list, size)
		}
	}
}

// TestBits: P8.1, a bit turned at any place of a frame, in its number, its text or its sum, makes it none.
func TestBits(t *testing.T) {
	draw := rand.New(rand.NewSource(84))
	for _, n := range []int{0, 1, 2, 4, 9, 64, 127, 128, 129, 300} {
		whole := row(drawn(draw, n))
		for i := range 8 * len(whole) {
			turned := slices.Clone(whole)
			turned[i/8] ^= 1 << (i % 8)
			holdNone(t, "P8.1: bit "+strconv.Itoa(i)+" turned", turned)
		}
	}
}

// TestSumOrder: P8.1, a frame whose sum's four bytes stand in another order is none.
func TestSumOrder(t *testing.T) {
	places := []int{0, 1, 2, 3}
	draw := rand.New(rand.NewSource(85))
	for range 50 {
		whole := row(drawn(draw, draw.Intn(200)))
		from := len(whole) - 4
		for order := range 256 {
			other := slices.Clone(whole)
			used := 0
			for i := range places {
				at := order >> (2 * i) & 3
				other[from+i] = whole[from+at]
				used |= 1 << at
			}
			if used == 15 && !bytes.Equal(other, whole) {
				holdNone(t, "P8.1: another order", other)
			}
		}
	}
	for _, x := range []string{"\x00\xD2\x02\xEF\x8D", "\x01a\x62\x77\x72\x70", "\x09123456789\x32\x62\x6E\x34"} {
		holdNone(t, "P8.1: the highest first", []byte(x))
	}
}

// TestOtherSums: P8.1, the sum is that of the number and of the bytes, as it is: no sum of the bytes alone, and none that is turned or moved on.
func TestOtherSums(t *testing.T) {
	for _, payload := range []string{"", "a", "123456789", strings.Repeat("x", 128)} {
		text := slowText([]byte(payload))
		right := crc32.ChecksumIEEE(text)
		for _, sum := range []uint32{crc32.ChecksumIEEE([]byte(payload)), ^right, right + 1, right - 1, right ^ 1<<31, 0, ^uint32(0), crc32.ChecksumIEEE(row([]byte(payload)))} {
			if sum != right {
				holdNone(t, "P8.1: another sum", binary.LittleEndian.AppendUint32(slices.Clone(text), sum))
			}
		}
	}
}

// TestWrongNumbers: P8.1, no frame has a number that is put longer than it needs to be, that never ends, that is above 2^64 - 1, or that is greater than there are bytes, up to the greatest: also where the sum is right.
func TestWrongNumbers(t *testing.T) {
	text := strings.Repeat("x", 128)
	for _, s := range []string{
		"\x80\x00", "\x80\x80\x00", "\x81\x00a", "\x83\x00abc", "\x83\x80\x00abc", "\xFF\x00" + text[:127], "\x80\x81\x00" + text,
		"\x83" + strings.Repeat("\x80", 8) + "\x00abc", "\x83" + strings.Repeat("\x80", 30) + "\x00abc",
		strings.Repeat("\xFF", 9) + "\x02abc", strings.Repeat("\x80", 9) + "\x02abc", strings.Repeat("\x80", 10) + "\x01abc",
	} {
		holdNone(t, "P8.1: a wrong number", []byte(s))
		holdNone(t, "P8.1: a wrong number", summed([]byte(s)))
	}
	for n := 1; n < 40; n++ {
		for _, c := range []byte{128, 129, 255} {
			b := bytes.Repeat([]byte{c}, n)
			holdScan(t, "P8.1: a number without an end", b, nil, 0)
			holdScan(t, "P8.1: a number without an end", slices.Concat(row(nil), b), [][]byte{nil}, 5)
		}
	}
	holdScan(t, "P8.1", bytes.Repeat([]byte{0x80}, 1<<20), nil, 0)
	holdScan(t, "P8.1", bytes.Repeat([]byte{0xFF}, 1<<20), nil, 0)
}

// TestTooGreat: P8.1, a number is greater than there are bytes, by one and by as much as can be; also as a number with a sign, or of 32 bits, it would be small.
func TestTooGreat(t *testing.T) {
	for _, behind := range []string{"", "a", "abcd", "abcdefghijkl", strings.Repeat("x", 200)} {
		n := uint64(len(behind))
		greater := []uint64{n + 1, n + 2, n + 3, n + 4, n + 5, n + 100}
		for i := 8; i < 64; i++ {
			greater = append(greater, 1<<i, 1<<i-1, 1<<i+n, 1<<i+n-4)
		}
		for near := range uint64(300) {
			greater = append(greater, math.MaxUint64-near, math.MaxInt64-near, 1<<63+near, 1<<32+near, 1<<32+n-near)
		}
		for _, v := range greater {
			if v <= n {
				continue
			}
			b := append(binary.AppendUvarint(nil, v), behind...)
			holdScan(t, "P8.1", b, nil, 0)
			if v > n+4 { // the sum's four bytes would be some of the text's
				holdScan(t, "P8.1", summed(b), nil, 0)
				holdScan(t, "P8.1", slices.Concat(row(nil), summed(b)), [][]byte{nil}, 5)
			}
		}
	}
}

// TestPutIsScanned: P8.2, frames are scanned as they were put, one behind the other.
func TestPutIsScanned(t *testing.T) {
	draw := rand.New(rand.NewSource(86))
	for range 200 {
		var b []byte
		var list [][]byte
		size := 0
		for range draw.Intn(9) {
			payload := drawn(draw, []int{0, 1, 5, 126, 127, 128, 129, 1000, 16383, 16384}[draw.Intn(10)])
			b = frame.Put(b, payload)
			list, size = append(list, payload), size+frame.Size(len(payload))
			holdScan(t, "P8.2", b, list, size)
		}
		if size != len(b) {
			t.Errorf("P8.2: %d bytes are put, %d by Size", len(b), size)
		}
	}
	// A payload may be frames itself.
	inner := frame.Put(frame.Put(nil, []byte("in")), nil)
	holdScan(t, "P8.2", frame.Put(nil, inner), [][]byte{inner}, frame.Size(len(inner)))
}

// TestCut: P8.2, cut at each byte, those are scanned that are whole; what stands in the room behind the cut plays no part.
func TestCut(t *testing.T) {
	draw := rand.New(rand.NewSource(87))
	for _, list := range [][][]byte{
		{nil}, {nil, nil, nil}, {[]byte("a")}, {[]byte("123456789"), []byte(strings.Repeat("a", 300))},
		{drawn(draw, 127), nil, drawn(draw, 128), []byte("abc")}, {drawn(draw, 16384), []byte("a")}, {row(nil), row([]byte("abc"), nil)},
	} {
		var b []byte
		ends := []int{}
		for _, payload := range list {
			b = frame.Put(b, payload)
			ends = append(ends, len(b))
		}
		for i := range len(b) + 1 {
			whole := 0
			for whole < len(ends) && ends[whole] <= i {
				whole++
			}
			size := 0
			if whole > 0 {
				size = ends[whole-1]
			}
			for _, cut := range [][]byte{b[:i], b[:i:i]} {
				if got, n := frame.Scan(cut); !same(got, list[:whole]) || n != size {
					t.Errorf("P8.2: cut at %d of %d: %d frames, %d, want %d, %d", i, len(b), len(got), n, whole, size)
				}
			}
		}
	}
}

// TestPutApart: rule 3, what Put answered hangs neither on what was handed in nor on another answer, when these are written over, or more is laid behind them.
func TestPutApart(t *testing.T) {
	for _, before := range []string{"", "b", "some bytes"} {
		for _, text := range []string{"", "a", "abc", strings.Repeat("x", 200)} {
			for room := range 40 {
				b, payload := roomy([]byte(before), room*room), roomy([]byte(text), room)
				first, second := frame.Put(b, payload), frame.Put(b, payload)
				third := frame.Put(first, []byte("third"))
				want, wantThird := slices.Clone(first), slices.Clone(third)
				wasB, wasPayload := slices.Clone(b[:cap(b)]), slices.Clone(payload[:cap(payload)])
				clear(second[:cap(second)])
				if !bytes.Equal(first, want) || !bytes.Equal(third, wantThird) {
					t.Fatalf("rule 3: Put(%q, ..) with room for %d: another answer shares its memory", before, room*room)
				}
				if !bytes.Equal(b[:cap(b)], wasB) || !bytes.Equal(payload[:cap(payload)], wasPayload) {
					t.Fatalf("rule 3: Put(%q, ..) with room for %d: what was handed in shares its memory", before, room*room)
				}
				clear(b[:cap(b)])
				clear(payload[:cap(payload)])
				if !bytes.Equal(first, want) {
					t.Fatalf("rule 3: Put(%q, ..) with room for %d: the answer hangs on what was handed in", before, room*room)
				}
				clear(first[:cap(first)])
				if !bytes.Equal(third, wantThird) {
					t.Fatalf("rule 3: Put behind what Put(%q, ..) answered shares its memory", before)
				}
			}
		}
	}
}

// scribble writes over all that a list has, and over the room behind each of its elements and behind itself.
func scribble(list [][]byte) {
	for _, p := range list {
		for i := range p[:cap(p)] {
			p[:cap(p)][i] = '!'
		}
	}
	clear(list[:cap(list)])
}

// TestScanApart: rule 3, what two scans of the same bytes answered doesn't write over one another, nor over what was handed in, nor hangs on it.
func TestScanApart(t *testing.T) {
	draw := rand.New(rand.NewSource(88))
	for range 200 {
		var list [][]byte
		for range 1 + draw.Intn(6) {
			list = append(list, drawn(draw, draw.Intn(3)*draw.Intn(100)))
		}
		b := roomy(slices.Concat(row(list...), []byte("\x05more")), draw.Intn(50))
		was := slices.Clone(b[:cap(b)])
		first, size := frame.Scan(b)
		second, again := frame.Scan(b)
		if size != again {
			t.Errorf("rule 4: Scan: %d, then %d", size, again)
		}
		scribble(first)
		if !same(second, list) {
			t.Fatal("rule 3: two scans of the same bytes write over one another")
		}
		if !bytes.Equal(b[:cap(b)], was) {
			t.Fatal("rule 3: a scan shares memory with what was handed in")
		}
		clear(b[:cap(b)])
		if !same(second, list) {
			t.Fatal("rule 3: what was scanned hangs on what was handed in")
		}
	}
}

// TestElementsApart: rule 3, more is laid behind each element of an answer, and the element is written over: no other element changes.
func TestElementsApart(t *testing.T) {
	for _, texts := range [][]string{{"", "", "a"}, {"a", "b", "c"}, {"abc", "", "defgh", "i"}, {strings.Repeat("x", 127), strings.Repeat("y", 128), "z"}} {
		var b []byte
		for _, s := range texts {
			b = frame.Put(b, []byte(s))
		}
		got, _ := frame.Scan(b)
		want := copied(got)
		for i, p := range got {
			_ = append(p, "????????"...)
			for j := range p[:cap(p)][len(p):] {
				p[:cap(p)][len(p)+j] = '?'
			}
			if !same(got, want) {
				t.Fatalf("rule 3: laid behind the element at %d, it is laid over another one", i)
			}
		}
		for i := range got {
			clear(got[i])
			clear(want[i])
			if !same(got, want) {
				t.Fatalf("rule 3: the element at %d shares memory with another one", i)
			}
		}
	}
}
