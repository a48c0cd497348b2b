package paint_test

import (
	"bytes"
	"math"
	"math/big"
	"math/rand"
	"slices"
	"strings"
	"testing"

	"coffers/api"
	"coffers/paint"
	"coffers/rights"
	"coffers/row"
)

// edges are the numbers about which something changes: the ends of one byte and of two, 2^40, 2^50, and the ends of 64 bits.
var edges = []int64{
	0, 1, 127, 128, 129, 300, 16383, 16384, 1<<40 - 1, 1 << 40, 1<<40 + 1, 1<<50 - 1, 1 << 50, 1<<50 + 1,
	1<<62 - 1, 1 << 62, math.MaxInt64 - 1, math.MaxInt64, -1, -2, -127, -128, -129, -1 << 40, -1 << 50, math.MinInt64, math.MinInt64 + 1,
}

// tooGreat are the bytes of numbers that 64 bits without a sign hold, and 63 bits don't.
var tooGreat = []string{
	"\x80\x80\x80\x80\x80\x80\x80\x80\x80\x01", // 2^63
	"\x81\x80\x80\x80\x80\x80\x80\x80\x80\x01",
	"\xFE\xFF\xFF\xFF\xFF\xFF\xFF\xFF\xFF\x01",
	"\xFF\xFF\xFF\xFF\xFF\xFF\xFF\xFF\xFF\x01", // 2^64 - 1
}

// noNumber are bytes that layer 2 has as none.
var noNumber = []string{
	"\x80\x00", // more than as few as can be
	"\x80\x80\x00",
	"\x85\x80\x00",
	"\xFF\x80\x80\x80\x80\x80\x80\x80\x80\x00",
	"\x80\x80\x80\x80\x80\x80\x80\x80\x80\x02", // 2^64
	"\xFF\xFF\xFF\xFF\xFF\xFF\xFF\xFF\xFF\x7F",
	"\x80\x80\x80\x80\x80\x80\x80\x80\x80\x80\x01",
	"\xFF\xFF\xFF\xFF\xFF\xFF\xFF\xFF\xFF\xFF\xFF\xFF",
}

// cluster is a config of which only N, K and C play a part.
func cluster(n int, k, c int64) api.Config { return api.Config{N: n, Q: 1, R: 1, P: 1, K: k, C: c} }

// of is a row, written short.
func of(inc, use int64, out ...int64) api.Row { return api.Row{Inc: inc, Use: use, Out: out} }

// same: are two books alike, row by row?
func same(a, b []api.Row) bool { return slices.EqualFunc(a, b, row.Same) }

// own are the same books in memory of their own.
func own(l []api.Row) []api.Row {
	var out []api.Row
	for _, r := range l {
		out = append(out, of(r.Inc, r.Use, slices.Clone(r.Out)...))
	}
	return out
}

// digits are a number's bytes as layer 2's words tell them, digit by digit to the base 128.
func digits(v *big.Int) []byte {
	var out []byte
	base, left := big.NewInt(128), new(big.Int).Set(v)
	for len(out) == 0 || left.Sign() > 0 {
		digit := new(big.Int)
		left.DivMod(left, base, digit)
		out = append(out, byte(digit.Int64())+128)
	}
	out[len(out)-1] -= 128
	return out
}

// counted is a number as it counts modulo 2^64.
func counted(v int64) *big.Int {
	whole := new(big.Int).Lsh(big.NewInt(1), 64)
	return whole.Mod(big.NewInt(v), whole)
}

// words are the bytes of books, as the chapter's words have them.
func words(l []api.Row) []byte {
	var out []byte
	for _, r := range l {
		out = append(out, digits(counted(r.Inc))...)
		out = append(out, digits(counted(r.Use))...)
		for _, v := range r.Out {
			out = append(out, digits(counted(v))...)
		}
	}
	return out
}

// read are the numbers with whose bytes b begins, n of them, each of 63 bits, and how many bytes they have; false, if there are fewer.
func read(b []byte, n int) (l []int64, size int, ok bool) {
	for range n {
		end := slices.IndexFunc(b[size:], func(c byte) bool { return c < 128 })
		if end < 0 {
			return nil, 0, false
		}
		v := new(big.Int)
		for _, c := range slices.Backward(b[size : size+end+1]) {
			v.Add(v.Lsh(v, 7), big.NewInt(int64(c%128)))
		}
		if !v.IsInt64() || !bytes.Equal(digits(v), b[size:size+end+1]) {
			return nil, 0, false
		}
		l, size = append(l, v.Int64()), size+end+1
	}
	return l, size, true
}

// books: the words of Take; how many bytes the books have, in place of what is behind.
func books(c api.Config, b []byte) (l []api.Row, size int, ok bool) {
	if !rights.May(c) {
		return nil, 0, false
	}
	all, size, ok := read(b, c.N*(c.N+2))
	if !ok {
		return nil, 0, false
	}
	for r := range slices.Chunk(all, c.N+2) {
		l = append(l, of(r[0], r[1], r[2:]...))
	}
	if !rights.Right(c, l) {
		return nil, 0, false
	}
	return l, size, true
}

// hold: Take(c, b) answers these books, and these bytes behind them.
func hold(t *testing.T, promise string, c api.Config, b []byte, want []api.Row, behind []byte) {
	t.Helper()
	l, rest, ok := paint.Take(c, b)
	if !same(l, want) || !bytes.Equal(rest, behind) || !ok {
		t.Errorf("%s: Take(%+v, %x): %v, %x, %t, want %v, %x, true", promise, c, b, l, rest, ok, want, behind)
	}
}

// holdNone: Take(c, b) answers that there are none.
func holdNone(t *testing.T, promise string, c api.Config, b []byte) {
	t.Helper()
	if l, rest, ok := paint.Take(c, b); len(l) != 0 || len(rest) != 0 || ok {
		t.Errorf("%s: Take(%+v, %x): %v, %x, %t, want nothing, nothing, false", promise, c, b, l, rest, ok)
	}
}

// roomy are the same bytes, in memory that has room behind them, all of it 'r'.
func roomy(b []byte, room int) []byte {
	whole := bytes.Repeat([]byte{'r'}, len(b)+room)
	copy(whole, b)
	return whole[:len(b):len(whole)]
}

// untouched: is all room behind these bytes 'r' still?
func untouched(b []byte) bool {
	room := b[len(b):cap(b)]
	return bytes.Count(room, []byte{'r'}) == len(room)
}

// drawnConfig is one that may be, of few or of many there.
func drawnConfig(draw *rand.Rand) api.Config {
	c := api.Config{N: 1 + draw.Intn(4), Q: 1 + draw.Intn(8), R: draw.Intn(9), P: 1 + draw.Intn(16), K: draw.Int63n(400), C: draw.Int63n(200)}
	if draw.Intn(4) == 0 {
		c.N = 1 + draw.Intn(16)
		c.C = draw.Int63n(1<<40/int64(c.N) + 1)
		c.K = draw.Int63n(1<<40 - int64(c.N)*c.C + 1)
	}
	return c
}

// drawnBooks are right books behind some steps.
func drawnBooks(draw *rand.Rand, c api.Config) []api.Row {
	l := rights.New(c)
	// As much forth as back, so that what was moved is now and then near to its limit.
	if c.N > 1 && draw.Intn(3) == 0 {
		most := 1<<50 - draw.Int63n(4)
		l[0].Out[1], l[1].Out[0] = most, most
	}
	for range draw.Intn(20) {
		who, amount := draw.Intn(c.N), 1+draw.Int63n(6)
		if most := rights.Of(c, l, who); most > 0 && draw.Intn(2) == 0 {
			amount = 1 + draw.Int63n(most)
		}
		out, code := rights.Put(c, l, who, amount)
		switch draw.Intn(4) {
		case 0:
			out, code = rights.Take(c, l, who, amount)
		case 1, 2:
			out, code = rights.Move(c, l, who, draw.Intn(c.N), amount)
		}
		if code == api.OK {
			l = out
		}
	}
	return l
}

// anyBooks are rows of any numbers, and with any lists Out, which no config has as right.
func anyBooks(draw *rand.Rand) []api.Row {
	var l []api.Row
	number := func() int64 {
		if draw.Intn(2) == 0 {
			return edges[draw.Intn(len(edges))]
		}
		return int64(draw.Uint64() >> draw.Intn(64))
	}
	for range draw.Intn(20) {
		r := of(number(), number())
		for range draw.Intn(20) {
			r.Out = append(r.Out, number())
		}
		l = append(l, r)
	}
	return l
}

// TestPut: P6.1, books whose bytes are written out, and bytes ahead of them.
func TestPut(t *testing.T) {
	for _, x := range []struct {
		b    string
		l    []api.Row
		want string
	}{
		{"", []api.Row{of(5, 0, 0)}, "\x05\x00\x00"}, // the chapter's own
		{"", nil, ""},
		{"", []api.Row{}, ""},
		{"ab", nil, "ab"},
		{"", []api.Row{{}}, "\x00\x00"},
		{"", []api.Row{{}, {}, {}}, "\x00\x00\x00\x00\x00\x00"},
		{"a", []api.Row{of(1, 2, 3)}, "a\x01\x02\x03"},
		{"", []api.Row{of(1, 2, 0, 3), of(4, 5, 6, 0)}, "\x01\x02\x00\x03\x04\x05\x06\x00"},
		{"\x80", []api.Row{of(127, 128, 0)}, "\x80\x7F\x80\x01\x00"},
		{"", []api.Row{of(1<<40, 300, 1<<50)}, "\x80\x80\x80\x80\x80\x20\xAC\x02\x80\x80\x80\x80\x80\x80\x80\x02"},
		{"", []api.Row{of(1, 2), of(3, 4, 5, 6, 7)}, "\x01\x02\x03\x04\x05\x06\x07"},
		{"", []api.Row{of(-1, -2, -128)}, "\xFF\xFF\xFF\xFF\xFF\xFF\xFF\xFF\xFF\x01\xFE\xFF\xFF\xFF\xFF\xFF\xFF\xFF\xFF\x01\x80\xFF\xFF\xFF\xFF\xFF\xFF\xFF\xFF\x01"},
		{"", []api.Row{of(math.MaxInt64, math.MinInt64)}, "\xFF\xFF\xFF\xFF\xFF\xFF\xFF\xFF\x7F\x80\x80\x80\x80\x80\x80\x80\x80\x80\x01"},
	} {
		if got := paint.Put([]byte(x.b), x.l); string(got) != x.want {
			t.Errorf("P6.1: Put(%x, %v): %x, want %x", x.b, x.l, got, x.want)
		}
		if got := paint.Put(nil, x.l); string(got) != x.want[len(x.b):] {
			t.Errorf("P6.1: Put(nil, %v): %x, want %x", x.l, got, x.want[len(x.b):])
		}
	}
}

// TestPutByWords: P6.1, rows of any numbers and of any lengths, behind nothing and much, with room behind that and without; nothing of what is handed in changes.
func TestPutByWords(t *testing.T) {
	draw := rand.New(rand.NewSource(61))
	for range 3000 {
		l := anyBooks(draw)
		b := roomy([]byte(strings.Repeat("b\x80", draw.Intn(30))), draw.Intn(4)*draw.Intn(4000))
		want := slices.Concat(b, words(l))
		wasL, wasB := own(l), slices.Clone(b)
		got := paint.Put(b, l)
		if !bytes.Equal(got, want) {
			t.Fatalf("P6.1: Put(%x, %v): %x, want %x", b, l, got, want)
		}
		if !same(l, wasL) || !bytes.Equal(b, wasB) || !untouched(b) {
			t.Fatalf("rule 3: Put(%x, %v) changed what was handed in", wasB, wasL)
		}
	}
}

// TestPutMuch: P6.1, much ahead of the books, and many rows: neither is gone through for each number anew.
func TestPutMuch(t *testing.T) {
	b := bytes.Repeat([]byte{'b'}, 1<<22)
	l := slices.Repeat([]api.Row{of(1, 300, 0, 127, 128)}, 1<<16)
	if got := paint.Put(b, l); !bytes.Equal(got, slices.Concat(b, bytes.Repeat(words(l[:1]), len(l)))) {
		t.Errorf("P6.1: Put behind much, of %d rows: %d bytes", len(l), len(got))
	}
}

// TestPutApart: rule 3, what is put twice behind the same bytes, with room, is in memory of its own, and stays as it is when what was handed in is written over.
func TestPutApart(t *testing.T) {
	b := roomy([]byte("ahead"), 64)
	l := []api.Row{of(1, 2, 0, 3), of(4, 5, 6, 0)}
	first, none := paint.Put(b, l), paint.Put(b, nil)
	second := paint.Put(b, []api.Row{of(9, 9, 9, 9), of(9, 9, 9, 9)})
	clear(second)
	_ = append(none, "behind"...)
	l[0].Out[1], l[1].Use = 99, 99
	copy(b, "XXXXX")
	if string(first) != "ahead\x01\x02\x00\x03\x04\x05\x06\x00" || !untouched(b) {
		t.Errorf("rule 3: Put: %q behind other calls, and %q", first, b[:cap(b)])
	}
}

// TestTake: P6.1, right books whose bytes are written out, just these, and with more behind.
func TestTake(t *testing.T) {
	for _, x := range []struct {
		c    api.Config
		b    string
		want []api.Row
	}{
		{cluster(1, 0, 9), "\x05\x00\x00", []api.Row{of(5, 0, 0)}}, // the chapter's own
		{cluster(1, 0, 0), "\x00\x00\x00", []api.Row{of(0, 0, 0)}},
		{cluster(1, 0, 5), "\x05\x05\x00", []api.Row{of(5, 5, 0)}}, // rights of just 0
		{cluster(1, 127, 127), "\x7F\x7F\x00", []api.Row{of(127, 127, 0)}},
		{cluster(1, 128, 128), "\x80\x01\x80\x01\x00", []api.Row{of(128, 128, 0)}},
		{cluster(1, 1<<40, 0), "\x00\x80\x80\x80\x80\x80\x20\x00", []api.Row{of(0, 1<<40, 0)}},
		{cluster(1, 0, 1<<40), "\x80\x80\x80\x80\x80\x20\x00\x00", []api.Row{of(1<<40, 0, 0)}},
		{cluster(2, 7, 5), "\x01\x02\x00\x03\x04\x05\x02\x00", []api.Row{of(1, 2, 0, 3), of(4, 5, 2, 0)}},
		{cluster(2, 300, 9), "\x00\x00\x00\x96\x01\x05\xB1\x02\x00\x00", []api.Row{of(0, 0, 0, 150), of(5, 305, 0, 0)}},
		{cluster(2, 0, 0), "\x00\x00\x00\x80\x80\x80\x80\x80\x80\x80\x02\x00\x00\x80\x80\x80\x80\x80\x80\x80\x02\x00", []api.Row{of(0, 0, 0, 1<<50), of(0, 0, 1<<50, 0)}},
		{cluster(3, 7, 5), strings.Repeat("\x00", 15), []api.Row{of(0, 0, 0, 0, 0), of(0, 0, 0, 0, 0), of(0, 0, 0, 0, 0)}},
		{cluster(16, 7, 5), strings.Repeat("\x00", 16*18), rights.New(cluster(16, 7, 5))},
	} {
		hold(t, "P6.1", x.c, []byte(x.b), x.want, nil)
		for _, behind := range []string{"z", "\x00", "\x80", "\xFF\xFF", x.b, strings.Repeat("\x80much", 1000)} {
			hold(t, "P6.1", x.c, []byte(x.b+behind), x.want, []byte(behind))
		}
	}
}

// full are books of which each number that may be more than 0 is so.
func full(n int) (api.Config, []api.Row) {
	c := cluster(n, 5000, 1000)
	l := rights.New(c)
	for i := range l {
		l[i].Inc, l[i].Use = 128+int64(i), 127
		for to := range l {
			if to != i {
				l[i].Out[to] = 1 << 50
			}
		}
	}
	return c, l
}

// TestTakeCut: P6.1, bytes of books that end at each place too soon are none; with all of them, they are some.
func TestTakeCut(t *testing.T) {
	for _, n := range []int{1, 2, 3, 15, 16} {
		c, l := full(n)
		b := words(l)
		for i := range b {
			holdNone(t, "P6.1", c, b[:i])
			holdNone(t, "P6.1", c, roomy(b[:i], 3))
		}
		hold(t, "P6.1", c, b, l, nil)
		hold(t, "P6.1", c, append(b, 0), l, []byte{0})
	}
	for _, c := range []api.Config{cluster(1, 0, 0), cluster(2, 9, 9), cluster(16, 9, 9)} {
		holdNone(t, "P6.1", c, nil)
		holdNone(t, "P6.1", c, []byte{})
	}
}

// TestTakeNoNumber: P6.1, in the place of each number, bytes that layer 2 has as none, and such as are above 63 bits; what is behind would be enough.
func TestTakeNoNumber(t *testing.T) {
	for _, n := range []int{1, 2, 3, 16} {
		c := cluster(n, 9, 9)
		for i := range n * (n + 2) {
			for _, s := range slices.Concat(tooGreat, noNumber) {
				holdNone(t, "P6.1", c, []byte(strings.Repeat("\x00", i)+s+strings.Repeat("\x00", 16*18)))
			}
		}
	}
}

// TestTakeWrong: P6.1, bytes of rows that may not be, and of books that are not right.
func TestTakeWrong(t *testing.T) {
	c := cluster(2, 7, 5) // shares 4 and 3
	for _, l := range [][]api.Row{
		{of(6, 0, 0, 0), of(0, 0, 0, 0)}, // above C
		{of(0, 0, 0, 0), of(6, 0, 0, 0)},
		{of(0, 0, 1, 0), of(0, 0, 0, 0)}, // to itself
		{of(0, 0, 0, 0), of(0, 0, 0, 1)},
		{of(0, 5, 0, 0), of(0, 0, 0, 0)}, // rights below 0
		{of(0, 0, 0, 0), of(0, 4, 0, 0)},
		{of(0, 0, 0, 5), of(0, 0, 0, 0)},
		{of(0, 0, 0, 0), of(0, 0, 4, 0)},
		{of(0, 0, 0, 1<<50+1), of(0, 0, 1<<50, 0)},
		{of(0, 0, 0, 1<<50+1), of(0, 0, 1<<50+1, 0)},
		{of(0, 1<<40+1, 0, 0), of(0, 0, 0, 0)},
		{of(1<<40+1, 0, 0, 0), of(0, 0, 0, 0)},
		{of(math.MaxInt64, 0, 0, 0), of(0, 0, 0, 0)},
		{of(0, math.MaxInt64, 0, 0), of(0, 0, 0, 0)},
		{of(0, 0, 0, math.MaxInt64), of(0, 0, math.MaxInt64, 0)},
		{of(-1, 0, 0, 0), of(0, 0, 0, 0)},
		{of(0, -1, 0, 0), of(0, 0, 0, 0)},
		{of(0, 0, 0, -1), of(0, 0, 0, 0)},
		{of(0, 0, 0, 0), of(0, 0, math.MinInt64, 0)},
		{of(0, 0, 0, 0)},           // a row too few
		{of(0, 0, 0), of(0, 0, 0)}, // a number too few of each
	} {
		holdNone(t, "P6.1", c, words(l))
		if rights.Right(c, l) {
			t.Errorf("P6.1: %v are right books", l)
		}
	}
	// Inc and Use just above 2^40, where all that may be is there.
	holdNone(t, "P6.1", cluster(1, 0, 1<<40), words([]api.Row{of(1<<40+1, 0, 0)}))
	holdNone(t, "P6.1", cluster(1, 1<<40, 0), words([]api.Row{of(0, 1<<40+1, 0)}))
}

// TestTakeOther: P6.1, books that are right by one config are none by another one that has them as wrong, and the same by one that has them as right.
func TestTakeOther(t *testing.T) {
	l := []api.Row{of(5, 0, 0, 2), of(0, 5, 0, 0)}
	b := words(l)
	for _, c := range []api.Config{cluster(2, 6, 5), cluster(2, 7, 5), cluster(2, 6, 6), {N: 2, Q: 8, R: 0, P: 16, K: 9, C: 7}} {
		hold(t, "P6.1", c, b, l, nil)
	}
	for _, c := range []api.Config{cluster(2, 5, 5), cluster(2, 6, 4), cluster(2, 5, 9), cluster(2, 0, 5), cluster(3, 9, 9)} {
		holdNone(t, "P6.1", c, b)
	}
	// As one row of three numbers, what begins these bytes isn't right by C 4, and right by C 5.
	holdNone(t, "P6.1", cluster(1, 9, 4), b)
	hold(t, "P6.1", cluster(1, 9, 5), b, []api.Row{of(5, 0, 0)}, b[3:])
}

// TestTakeConfig: P6.1, by a config that may not be, nothing is taken, not even by one of no replicas.
func TestTakeConfig(t *testing.T) {
	list := []api.Config{{}, cluster(0, 5, 5), cluster(-1, 5, 5), cluster(-2, 5, 5), cluster(17, 5, 5), cluster(math.MaxInt64, 5, 5), cluster(math.MinInt64, 5, 5), cluster(1<<40, 5, 5), cluster(2, -1, 5), cluster(2, 5, -1), cluster(2, 1<<40, 1), cluster(2, 4, math.MaxInt64), cluster(16, 5, 1<<60)}
	for i := range 3 {
		for _, v := range []int{-1, 17, math.MinInt64, math.MaxInt64} {
			c := cluster(2, 5, 5)
			*[]*int{&c.Q, &c.R, &c.P}[i] = v
			list = append(list, c)
		}
	}
	for _, c := range list {
		for _, b := range [][]byte{nil, {}, {0}, make([]byte, 3), make([]byte, 8), make([]byte, 17*19), make([]byte, 17*19+1)} {
			holdNone(t, "P6.1", c, b)
		}
	}
}

// spoilt are bytes of which one is another one, one is more, one is fewer, or some numbers are others.
func spoilt(draw *rand.Rand, b []byte) []byte {
	b = slices.Clone(b)
	at := draw.Intn(len(b))
	switch draw.Intn(6) {
	case 0:
		b[at] = byte(draw.Intn(256))
	case 1:
		b[at] ^= 1 << draw.Intn(8)
	case 2:
		return slices.Insert(b, at, byte(draw.Intn(256)))
	case 3:
		return slices.Delete(b, at, at+1)
	case 4:
		return slices.Insert(b, at, digits(counted(edges[draw.Intn(len(edges))]))...)
	default:
		strange := slices.Concat(tooGreat, noNumber)
		return slices.Replace(b, at, at+1, []byte(strange[draw.Intn(len(strange))])...)
	}
	return b
}

// TestTakeByWords: P6.1, bytes of right books, whole and spoilt, with more behind and without, and drawn bytes, by configs that are theirs and others.
func TestTakeByWords(t *testing.T) {
	draw := rand.New(rand.NewSource(62))
	some := map[bool]int{}
	for range 20000 {
		c := drawnConfig(draw)
		b := words(drawnBooks(draw, c))
		for range draw.Intn(3) {
			b = spoilt(draw, b)
		}
		if draw.Intn(8) == 0 {
			b = make([]byte, draw.Intn(30))
			draw.Read(b)
		}
		if draw.Intn(4) == 0 {
			c = drawnConfig(draw)
		}
		b = append(b, strings.Repeat("\x01", draw.Intn(3))...)
		l, size, ok := books(c, b)
		some[ok]++
		if ok {
			hold(t, "P6.1", c, b, l, b[size:])
		} else {
			holdNone(t, "P6.1", c, b)
		}
	}
	if some[true] < 3000 || some[false] < 3000 {
		t.Errorf("too few of a kind were tried: %v", some)
	}
}

// TestTakeApart: rule 3, what is taken from has its bytes and its room still; what is taken is in memory of its own, each list of it.
func TestTakeApart(t *testing.T) {
	c, want := full(3)
	whole := append(words(want), "behind"...)
	b := roomy(whole, 40)
	l, rest, ok := paint.Take(c, b)
	if !ok || !bytes.Equal(b, whole) || !untouched(b) {
		t.Fatalf("rule 3: Take: %t, and %x", ok, b[:cap(b)])
	}
	_ = append(rest, "more"...)
	if !untouched(b) {
		t.Errorf("rule 3: what is behind the books has room behind it: %x", b[:cap(b)])
	}
	clear(b)
	if !same(l, want) {
		t.Errorf("rule 3: Take: %v, when its bytes were written over", l)
	}
	for i := range l {
		_ = append(l[i].Out, 77, 77, 77, 77, 77, 77)
		clear(l[i].Out)
		for j := i + 1; j < len(l); j++ {
			if !row.Same(l[j], want[j]) {
				t.Errorf("rule 7: row %d shares memory with row %d", i, j)
			}
		}
	}
}

// TestPutIsTaken: P6.2, right books are taken as they were put, whatever is ahead of them and behind.
func TestPutIsTaken(t *testing.T) {
	draw := rand.New(rand.NewSource(63))
	for range 5000 {
		c := drawnConfig(draw)
		l := drawnBooks(draw, c)
		ahead, behind := make([]byte, draw.Intn(4)), make([]byte, draw.Intn(4))
		draw.Read(ahead)
		draw.Read(behind)
		b := paint.Put(ahead, l)
		if !bytes.HasPrefix(b, ahead) {
			t.Fatalf("P6.2: Put(%x, %v): %x", ahead, l, b)
		}
		hold(t, "P6.2", c, append(b[len(ahead):], behind...), l, behind)
	}
	for n := 1; n <= 16; n++ {
		c, l := full(n)
		hold(t, "P6.2", c, paint.Put(nil, l), l, nil)
		hold(t, "P6.2", c, paint.Put(nil, rights.New(c)), rights.New(c), nil)
	}
}

// TestTakenIsPut: P6.2, the other way round: what was taken is put as the bytes that it was taken from, and two books in a row are taken one after the other.
func TestTakenIsPut(t *testing.T) {
	draw := rand.New(rand.NewSource(64))
	for range 2000 {
		c := drawnConfig(draw)
		first, second := drawnBooks(draw, c), drawnBooks(draw, c)
		b := paint.Put(paint.Put(nil, first), second)
		hold(t, "P6.2", c, b, first, words(second))
		if l, rest, ok := paint.Take(c, b); !ok || !bytes.Equal(slices.Concat(paint.Put(nil, l), rest), b) {
			t.Errorf("P6.2: Take(%+v, %x): %v, %x, %t", c, b, l, rest, ok)
		}
	}
}
