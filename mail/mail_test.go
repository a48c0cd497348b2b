package mail_test

import (
	"bytes"
	"encoding/binary"
	"math"
	"math/rand"
	"reflect"
	"slices"
	"strings"
	"testing"

	"coffers/api"
	"coffers/claim"
	"coffers/mail"
	"coffers/rights"
	"coffers/row"
)

// The greatest amount and the greatest time that may be.
const (
	mostAmount = 1 << 40
	mostTime   = 1 << 50
)

// edges are numbers about whose bytes something changes, and these bytes, written out.
var edges = []struct {
	v     int64
	bytes string
}{
	{0, "\x00"},
	{1, "\x01"},
	{127, "\x7F"},
	{128, "\x80\x01"},
	{129, "\x81\x01"},
	{300, "\xAC\x02"},
	{16383, "\xFF\x7F"},
	{16384, "\x80\x80\x01"},
	{mostAmount, "\x80\x80\x80\x80\x80\x20"},
	{mostTime, "\x80\x80\x80\x80\x80\x80\x80\x02"},
	{math.MaxInt64, "\xFF\xFF\xFF\xFF\xFF\xFF\xFF\xFF\x7F"},
	{math.MinInt64, "\x80\x80\x80\x80\x80\x80\x80\x80\x80\x01"},
	{math.MinInt64 + 1, "\x81\x80\x80\x80\x80\x80\x80\x80\x80\x01"},
	{-1, "\xFF\xFF\xFF\xFF\xFF\xFF\xFF\xFF\xFF\x01"},
	{-2, "\xFE\xFF\xFF\xFF\xFF\xFF\xFF\xFF\xFF\x01"},
	{-127, "\x81\xFF\xFF\xFF\xFF\xFF\xFF\xFF\xFF\x01"},
	{-128, "\x80\xFF\xFF\xFF\xFF\xFF\xFF\xFF\xFF\x01"},
	{-129, "\xFF\xFE\xFF\xFF\xFF\xFF\xFF\xFF\xFF\x01"},
}

// noNumber are bytes that layer 2 has as none, whatever stands behind them.
var noNumber = []string{
	"\x80\x00", // more than as few as can be
	"\x81\x00",
	"\x80\x80\x00",
	"\xFF\x80\x80\x80\x80\x80\x80\x80\x80\x00",
	"\x80\x80\x80\x80\x80\x80\x80\x80\x80\x02", // 2^64
	"\xFF\xFF\xFF\xFF\xFF\xFF\xFF\xFF\xFF\x7F",
	"\x80\x80\x80\x80\x80\x80\x80\x80\x80\x80\x01",
	"\xFF\xFF\xFF\xFF\xFF\xFF\xFF\xFF\xFF\xFF\xFF\xFF",
}

// badTimes and badAmounts are such as may not be, 0 aside: the ones next to those that may be, the ends of 64 bits, and such as would come out as another one in fewer bits.
var (
	badTimes   = []int64{-1, -2, mostTime + 1, mostTime + 2, 2 * mostTime, -mostTime, -1 << 32, 1<<63 - mostTime, math.MinInt64, math.MinInt64 + 1, math.MaxInt64}
	badAmounts = []int64{-1, -2, mostAmount + 1, mostAmount + 2, mostTime, -mostAmount, -1 << 32, 1 << 62, math.MinInt64, math.MinInt64 + 1, math.MaxInt64}
)

// config is one of n replicas that has few of everything.
func config(n int) api.Config {
	return api.Config{N: n, Q: 1, R: 3, P: 1, K: 1600, C: 200}
}

// wrongConfigs are some that may not be, of 2 replicas where they can: one thing is wrong with each.
func wrongConfigs() []api.Config {
	list := []api.Config{{}}
	for _, spoil := range []func(c *api.Config){
		func(c *api.Config) { c.N = 0 },
		func(c *api.Config) { c.N = -1 },
		func(c *api.Config) { c.N = -2 },
		func(c *api.Config) { c.N = 17 },
		func(c *api.Config) { c.N = 1 << 40 },
		func(c *api.Config) { c.N = math.MinInt },
		func(c *api.Config) { c.N = math.MaxInt },
		func(c *api.Config) { c.Q = 0 },
		func(c *api.Config) { c.Q = 9 },
		func(c *api.Config) { c.R = -1 },
		func(c *api.Config) { c.R = 9 },
		func(c *api.Config) { c.P = 0 },
		func(c *api.Config) { c.P = 17 },
		func(c *api.Config) { c.K = -1 },
		func(c *api.Config) { c.K = mostAmount + 1 },
		func(c *api.Config) { c.C = -1 },
		func(c *api.Config) { c.C = mostAmount },
		func(c *api.Config) { c.C = math.MaxInt64 },
	} {
		c := config(2)
		spoil(&c)
		list = append(list, c)
	}
	return list
}

// of is a row, written short.
func of(inc, use int64, out ...int64) api.Row { return api.Row{Inc: inc, Use: use, Out: out} }

// ask is a request, written short.
func ask(time int64, who int, amount int64) api.Request {
	return api.Request{Id: api.Stamp{Time: time, Who: who}, Amount: amount}
}

// bare is the least message that may be.
func bare(c api.Config, from, to int) api.Mail {
	return api.Mail{From: from, To: to, Clock: 1, Rows: rights.New(c), Echo: make([]api.Look, c.N)}
}

// full is a message that may be, of which each number that may be more than 0 is so, one unlike the other where it can.
func full(c api.Config, from, to int) api.Mail {
	m := api.Mail{From: from, To: to, Clock: 300, Rows: rights.New(c), Head: ask(129, from, 77), Asks: c.R, Look: api.Look{Try: 1000, Phase: 2}}
	for who := range m.Rows {
		m.Rows[who].Inc, m.Rows[who].Use = 128+int64(who), 20+int64(who)
		for other := range m.Rows {
			if other != who {
				// Alike to and fro: the rights stay as they were.
				m.Rows[who].Out[other] = 40000 + int64(100*min(who, other)+max(who, other))
			}
		}
		m.Echo = append(m.Echo, api.Look{Try: 500 + int64(who), Phase: 1 + who%2})
	}
	m.Echo[from] = api.Look{}
	return m
}

// copied is the same message, in memory of its own.
func copied(m api.Mail) api.Mail {
	var rows []api.Row
	for _, r := range m.Rows {
		rows = append(rows, of(r.Inc, r.Use, slices.Clone(r.Out)...))
	}
	m.Rows, m.Echo = rows, slices.Clone(m.Echo)
	return m
}

// with is the same message, in memory of its own, with something done to it.
func with(m api.Mail, change func(m *api.Mail)) api.Mail {
	m = copied(m)
	change(&m)
	return m
}

// same: are two messages the same, lists element by element?
func same(a, b api.Mail) bool {
	lists := slices.EqualFunc(a.Rows, b.Rows, row.Same) && slices.Equal(a.Echo, b.Echo)
	return lists && a.From == b.From && a.To == b.To && a.Clock == b.Clock && a.Head == b.Head && a.Asks == b.Asks && a.Look == b.Look
}

// numbers are those of a message, in order.
func numbers(m api.Mail) []int64 {
	l := []int64{int64(m.From), int64(m.To), m.Clock}
	for _, r := range m.Rows {
		l = append(append(l, r.Inc, r.Use), r.Out...)
	}
	l = append(l, m.Head.Id.Time, int64(m.Head.Id.Who), m.Head.Amount, int64(m.Asks), m.Look.Try, int64(m.Look.Phase))
	for _, k := range m.Echo {
		l = append(l, k.Try, int64(k.Phase))
	}
	return l
}

// digits are a number's bytes.
func digits(v int64) []byte { return binary.AppendUvarint(nil, uint64(v)) }

// words are the bytes of a message, as the chapter's words have them.
func words(m api.Mail) []byte {
	var b []byte
	for _, v := range numbers(m) {
		b = append(b, digits(v)...)
	}
	return b
}

// read are the numbers whose bytes b are, all of them; false, if there are none such.
func read(b []byte) (l []int64, ok bool) {
	for len(b) > 0 {
		v, n := binary.Uvarint(b)
		if n <= 0 || !bytes.Equal(b[:n], digits(int64(v))) {
			return nil, false
		}
		l, b = append(l, int64(v)), b[n:]
	}
	return l, true
}

// taken: the words of Take.
func taken(c api.Config, b []byte) (api.Mail, bool) {
	l, ok := read(b)
	if !ok || !rights.May(c) || len(l) != 3+c.N*(2+c.N)+6+2*c.N {
		return api.Mail{}, false
	}
	m := api.Mail{From: int(l[0]), To: int(l[1]), Clock: l[2]}
	l = l[3:]
	for r := range slices.Chunk(l[:c.N*(2+c.N)], 2+c.N) {
		m.Rows = append(m.Rows, of(r[0], r[1], r[2:]...))
	}
	l = l[c.N*(2+c.N):]
	m.Head, m.Asks, m.Look = ask(l[0], int(l[1]), l[2]), int(l[3]), api.Look{Try: l[4], Phase: int(l[5])}
	for k := range slices.Chunk(l[6:], 2) {
		m.Echo = append(m.Echo, api.Look{Try: k[0], Phase: int(k[1])})
	}
	if !claim.MayMail(c, m) {
		return api.Mail{}, false
	}
	return m, true
}

// holdPut: Put(m) answers these bytes.
func holdPut(t *testing.T, m api.Mail, want []byte) {
	t.Helper()
	if got := mail.Put(m); !bytes.Equal(got, want) {
		t.Errorf("P16.1: Put(%+v): %x, want %x", m, got, want)
	}
}

// hold: Take(c, b) answers this message.
func hold(t *testing.T, promise string, c api.Config, b []byte, want api.Mail) {
	t.Helper()
	if m, ok := mail.Take(c, b); !same(m, want) || !ok {
		t.Errorf("%s: Take(%+v, %x): %+v, %t, want %+v, true", promise, c, b, m, ok, want)
	}
}

// holdNone: Take(c, b) answers that there is none.
func holdNone(t *testing.T, c api.Config, b []byte) {
	t.Helper()
	if m, ok := mail.Take(c, b); !same(m, api.Mail{}) || ok {
		t.Errorf("P16.1: Take(%+v, %x): %+v, %t, want none, false", c, b, m, ok)
	}
}

// holdWords: Take(c, b) answers what the words come to; that is told, too.
func holdWords(t *testing.T, c api.Config, b []byte) bool {
	t.Helper()
	want, ok := taken(c, b)
	if ok {
		hold(t, "P16.1", c, b, want)
	} else {
		holdNone(t, c, b)
	}
	return ok
}

// holdMay: a message that may be, or may not, is put as the words say, and taken only if it may be.
func holdMay(t *testing.T, c api.Config, m api.Mail, may bool) {
	t.Helper()
	holdPut(t, m, words(m))
	if may {
		hold(t, "P16.2", c, mail.Put(m), m)
		hold(t, "P16.1", c, words(m), m)
	} else {
		holdNone(t, c, mail.Put(m))
		holdNone(t, c, words(m))
	}
}

// written are messages that may be by config(2) or config(3), with all their bytes.
var written = []struct {
	n     int
	m     api.Mail
	bytes string
}{
	{
		2, api.Mail{From: 0, To: 1, Clock: 1, Rows: []api.Row{of(0, 0, 0, 0), of(0, 0, 0, 0)}, Echo: []api.Look{{}, {}}},
		"\x00\x01\x01" + "\x00\x00\x00\x00" + "\x00\x00\x00\x00" + "\x00\x00\x00\x00" + "\x00\x00" + "\x00\x00\x00\x00",
	},
	{
		2, api.Mail{From: 1, To: 0, Clock: 300, Rows: []api.Row{of(1, 2, 0, 3), of(4, 5, 6, 0)}, Head: ask(7, 1, 8), Asks: 2, Look: api.Look{Try: 9, Phase: 1}, Echo: []api.Look{{Try: 10, Phase: 2}, {}}},
		"\x01\x00\xAC\x02" + "\x01\x02\x00\x03" + "\x04\x05\x06\x00" + "\x07\x01\x08\x02" + "\x09\x01" + "\x0A\x02\x00\x00",
	},
	{
		2, api.Mail{From: 0, To: 1, Clock: mostTime, Rows: []api.Row{of(127, 128, 0, 300), of(128, 127, 129, 0)}, Head: ask(mostTime, 0, mostAmount), Asks: 3, Look: api.Look{Try: mostTime, Phase: 2}, Echo: []api.Look{{}, {Try: 128, Phase: 1}}},
		"\x00\x01\x80\x80\x80\x80\x80\x80\x80\x02" + "\x7F\x80\x01\x00\xAC\x02" + "\x80\x01\x7F\x81\x01\x00" + "\x80\x80\x80\x80\x80\x80\x80\x02\x00\x80\x80\x80\x80\x80\x20\x03" + "\x80\x80\x80\x80\x80\x80\x80\x02\x02" + "\x00\x00\x80\x01\x01",
	},
	{
		3, api.Mail{From: 2, To: 0, Clock: 127, Rows: []api.Row{of(1, 2, 0, 3, 4), of(5, 6, 7, 0, 8), of(9, 10, 11, 12, 0)}, Head: ask(13, 2, 14), Asks: 1, Look: api.Look{Try: 15, Phase: 2}, Echo: []api.Look{{Try: 16, Phase: 1}, {Try: 17, Phase: 2}, {}}},
		"\x02\x00\x7F" + "\x01\x02\x00\x03\x04" + "\x05\x06\x07\x00\x08" + "\x09\x0A\x0B\x0C\x00" + "\x0D\x02\x0E\x01" + "\x0F\x02" + "\x10\x01\x11\x02\x00\x00",
	},
}

// TestWritten: P16.1, the chapter's example, and messages whose bytes are written out, put and taken.
func TestWritten(t *testing.T) {
	if b := mail.Put(bare(config(2), 1, 0)); !bytes.HasPrefix(b, []byte{1, 0}) {
		t.Errorf("P16.1: a message from 1 to 0 is %x", b)
	}
	for _, x := range written {
		holdPut(t, x.m, []byte(x.bytes))
		hold(t, "P16.1", config(x.n), []byte(x.bytes), x.m)
		holdMay(t, config(x.n), x.m, true)
	}
}

// TestPutLists: P16.1, the bytes of messages that may not be by any config: books without rows, rows without Outs, with more and fewer of them, and an Echo without looks, of one, of many.
func TestPutLists(t *testing.T) {
	books := []struct {
		l     []api.Row
		bytes string
	}{
		{nil, ""},
		{[]api.Row{}, ""},
		{[]api.Row{{}}, "\x00\x00"},
		{[]api.Row{of(1, 2)}, "\x01\x02"},
		{[]api.Row{of(1, 2), {Inc: 3, Out: []int64{}}, of(4, 5)}, "\x01\x02\x03\x00\x04\x05"},
		{[]api.Row{of(1, 2, 3)}, "\x01\x02\x03"},
		{[]api.Row{of(1, 2, 3, 4, 5), of(6, 7, 8)}, "\x01\x02\x03\x04\x05\x06\x07\x08"},
		{slices.Repeat([]api.Row{of(1, 2, slices.Repeat([]int64{3}, 40)...)}, 30), strings.Repeat("\x01\x02"+strings.Repeat("\x03", 40), 30)},
	}
	echoes := []struct {
		l     []api.Look
		bytes string
	}{
		{nil, ""},
		{[]api.Look{}, ""},
		{[]api.Look{{}}, "\x00\x00"},
		{[]api.Look{{Try: 300, Phase: 3}}, "\xAC\x02\x03"},
		{[]api.Look{{Try: 4, Phase: 5}, {Try: 6, Phase: 7}, {}}, "\x04\x05\x06\x07\x00\x00"},
		{slices.Repeat([]api.Look{{Try: 4, Phase: 300}}, 100), strings.Repeat("\x04\xAC\x02", 100)},
	}
	for _, rows := range books {
		for _, echo := range echoes {
			m := api.Mail{Rows: rows.l, Echo: echo.l}
			holdPut(t, m, []byte("\x00\x00\x00"+rows.bytes+"\x00\x00\x00\x00"+"\x00\x00"+echo.bytes))
			m.From, m.To, m.Clock, m.Head, m.Asks, m.Look = 21, 22, 23, ask(24, 25, 26), 27, api.Look{Try: 28, Phase: 29}
			want := []byte("\x15\x16\x17" + rows.bytes + "\x18\x19\x1A\x1B" + "\x1C\x1D" + echo.bytes)
			holdPut(t, m, want)
			for n := range 4 {
				holdWords(t, config(n), want)
			}
		}
	}
}

// set is the same message, in memory of its own, with that number, in the order of its bytes, changed.
func set(m api.Mail, at int, v int64) api.Mail {
	m = copied(m)
	longs, ints := map[int]*int64{2: &m.Clock}, map[int]*int{0: &m.From, 1: &m.To}
	i := 3
	long := func(p *int64) { longs[i], i = p, i+1 }
	whole := func(p *int) { ints[i], i = p, i+1 }
	for r := range m.Rows {
		long(&m.Rows[r].Inc)
		long(&m.Rows[r].Use)
		for o := range m.Rows[r].Out {
			long(&m.Rows[r].Out[o])
		}
	}
	long(&m.Head.Id.Time)
	whole(&m.Head.Id.Who)
	long(&m.Head.Amount)
	whole(&m.Asks)
	long(&m.Look.Try)
	whole(&m.Look.Phase)
	for k := range m.Echo {
		long(&m.Echo[k].Try)
		whole(&m.Echo[k].Phase)
	}
	if p := longs[at]; p != nil {
		*p = v
	} else {
		*ints[at] = int(v)
	}
	return m
}

// TestEachNumber: P16.1, each number of a message at its edges, below 0, 0, 127, 128, the greatest and the least of 64 bits among them: its bytes stand in their place, and none but what may be is taken.
func TestEachNumber(t *testing.T) {
	zero := func(n int) api.Mail {
		m := api.Mail{Rows: make([]api.Row, n), Echo: make([]api.Look, n)}
		for who := range m.Rows {
			m.Rows[who].Out = make([]int64, n)
		}
		return m
	}
	for _, n := range []int{1, 2, 3, 16} {
		all := 3 + n*(2+n) + 6 + 2*n
		for at := range all {
			for _, x := range edges {
				holdPut(t, set(zero(n), at, x.v), []byte(strings.Repeat("\x00", at)+x.bytes+strings.Repeat("\x00", all-1-at)))
			}
		}
	}
	for _, n := range []int{2, 3, 16} {
		c := config(n)
		some := map[bool]int{}
		for _, m := range []api.Mail{bare(c, 1, 0), bare(c, 0, 1), full(c, 1, 0), full(c, n-2, n-1)} {
			for at := range numbers(m) {
				for _, x := range edges {
					some[holdWords(t, c, mail.Put(set(m, at, x.v)))]++
				}
			}
		}
		if some[true] < 100 || some[false] < 100 {
			t.Errorf("too few of a kind were tried: %v", some)
		}
	}
}

// TestBelow: P16.1, in the place of each number of a message that may be, numbers of 64 bits that count as such below 0: it is none.
func TestBelow(t *testing.T) {
	for _, n := range []int{2, 3, 16} {
		c := config(n)
		for _, m := range []api.Mail{bare(c, 1, 0), full(c, 0, 1), full(c, n-1, 0)} {
			for at := range numbers(m) {
				for _, v := range []int64{-1, -2, -128, -mostTime, math.MinInt64 + 1, math.MinInt64} {
					holdNone(t, c, words(set(m, at, v)))
				}
			}
		}
	}
}

// TestNoBytes: P16.1, no bytes are no message's, by no config; nor are a few.
func TestNoBytes(t *testing.T) {
	for n := range 18 {
		for _, b := range [][]byte{nil, {}, make([]byte, 0, 9), {0}, {1, 0}, {0, 1, 1}, {128}, {128, 0}} {
			holdNone(t, config(n), b)
		}
	}
}

// TestCut: P16.1, the bytes of a message that may be, cut at each place, begun at each place but the first, and with one more byte behind them.
func TestCut(t *testing.T) {
	for _, n := range []int{2, 3, 16} {
		c := config(n)
		for _, m := range []api.Mail{bare(c, 1, 0), bare(c, 0, n-1), full(c, 1, 0), full(c, n-2, n-1)} {
			b := words(m)
			hold(t, "P16.1", c, b, m)
			for at := range b {
				holdNone(t, c, b[:at])
				holdNone(t, c, slices.Clip(b[:at]))
				if at > 0 {
					holdNone(t, c, b[at:])
				}
			}
			for more := range 256 {
				holdNone(t, c, append(b, byte(more)))
			}
			holdNone(t, c, append(b, b...))
			holdNone(t, c, append(b, make([]byte, 1000)...))
		}
	}
}

// TestTurned: P16.1, with one byte turned to any other one, the bytes are those of another message that may be, or of none.
func TestTurned(t *testing.T) {
	for _, n := range []int{2, 3, 16} {
		c := config(n)
		some := map[bool]int{}
		for _, m := range []api.Mail{bare(c, 1, 0), full(c, 1, 0), full(c, n-2, n-1)} {
			b := words(m)
			for at, was := range b {
				for turn := 1; turn < 256; turn++ {
					// Of many replicas one bit at a time is enough.
					if n == 16 && turn&(turn-1) != 0 {
						continue
					}
					b[at] = was ^ byte(turn)
					some[holdWords(t, c, b)]++
				}
				b[at] = was
			}
		}
		if some[true] < 100 || some[false] < 100 {
			t.Errorf("too few of a kind were tried: %v", some)
		}
	}
}

// TestLonger: P16.1, a number put in more bytes than it needs, or bytes of none in its place, at each place.
func TestLonger(t *testing.T) {
	for _, n := range []int{2, 3, 16} {
		c := config(n)
		for _, m := range []api.Mail{bare(c, 1, 0), full(c, 0, 1), full(c, n-1, n-2)} {
			b := words(m)
			at := 0
			for _, v := range numbers(m) {
				end := at + len(digits(v))
				long := slices.Clone(b[at:end])
				long[len(long)-1] |= 128
				for more := range 10 {
					longer := slices.Concat(long, bytes.Repeat([]byte{128}, more), []byte{0})
					holdNone(t, c, slices.Concat(b[:at], longer, b[end:]))
				}
				for _, s := range noNumber {
					holdNone(t, c, slices.Concat(b[:at], []byte(s), b[end:]))
				}
				at = end
			}
		}
	}
}

// TestWhos: P16.1, From and To, alike, and each from below 0 to N and beyond.
func TestWhos(t *testing.T) {
	for _, n := range []int{1, 2, 3, 16} {
		c := config(n)
		list := []int{-1, -2, -n, n + 1, n + 16, n + 1<<32, 1 << 62, math.MinInt, math.MinInt + n - 1, math.MaxInt}
		for who := range n + 1 {
			list = append(list, who)
		}
		for _, from := range list {
			for _, to := range list {
				m := bare(c, from, to)
				may := 0 <= from && from < n && 0 <= to && to < n && from != to
				holdMay(t, c, m, may)
			}
		}
	}
}

// TestClock: P16.1, a Clock of 0, of 1, of MaxTime, of one above it, and others.
func TestClock(t *testing.T) {
	for _, n := range []int{2, 3, 16} {
		c := config(n)
		for _, m := range []api.Mail{bare(c, 1, 0), full(c, n-1, 0)} {
			for _, clock := range []int64{1, 2, 127, 128, mostTime - 1, mostTime} {
				holdMay(t, c, with(m, func(m *api.Mail) { m.Clock = clock }), true)
			}
			for _, clock := range append([]int64{0}, badTimes...) {
				holdMay(t, c, with(m, func(m *api.Mail) { m.Clock = clock }), false)
			}
		}
	}
}

// TestRows: P16.1, books that are right, and such as aren't.
func TestRows(t *testing.T) {
	c := api.Config{N: 3, Q: 1, R: 1, P: 1, K: 7, C: 5} // shares 3, 2, 2
	for _, right := range []func(l []api.Row){
		func(l []api.Row) {},
		func(l []api.Row) { l[0].Inc = 5 },
		func(l []api.Row) { l[2].Use = 2 },
		func(l []api.Row) { l[0].Inc, l[0].Use = 5, 8 },
		func(l []api.Row) { l[0].Out[1] = 3 },
		func(l []api.Row) { l[0].Out[1], l[1].Out[2] = 3, 5 },
		func(l []api.Row) { l[1].Out[0], l[0].Out[1] = mostTime, mostTime },
	} {
		m := bare(c, 1, 2)
		right(m.Rows)
		holdMay(t, c, m, true)
	}
	for _, wrong := range []func(l []api.Row){
		func(l []api.Row) { l[0].Inc = 6 },
		func(l []api.Row) { l[0].Inc = -1 },
		func(l []api.Row) { l[1].Inc = mostAmount + 1 },
		func(l []api.Row) { l[2].Use = 3 },
		func(l []api.Row) { l[2].Use = -1 },
		func(l []api.Row) { l[1].Out[1] = 1 },
		func(l []api.Row) { l[0].Out[1] = 4 },
		func(l []api.Row) { l[0].Out[1] = -1 },
		func(l []api.Row) { l[0].Out[1], l[1].Out[2] = 3, 6 },
		func(l []api.Row) { l[1].Out[0], l[0].Out[1] = mostTime+1, mostTime+1 },
		func(l []api.Row) { l[0].Use = math.MaxInt64 },
		func(l []api.Row) { l[0].Use = math.MinInt64 },
	} {
		m := bare(c, 1, 2)
		wrong(m.Rows)
		holdMay(t, c, m, false)
	}
}

// TestHead: P16.1, a Head that is none, such as may be the sender's, and such as may not.
func TestHead(t *testing.T) {
	for _, n := range []int{2, 3, 16} {
		c, who := config(n), n-1
		good := []api.Request{{}, ask(1, who, 1), ask(128, who, 127), ask(1, who, mostAmount), ask(mostTime, who, 1), ask(mostTime-1, who, mostAmount-1), ask(mostTime, who, mostAmount)}
		bad := []api.Request{ask(1, 0, 0), ask(0, who, 0), ask(0, 0, 1), ask(0, who, 1), ask(1, who, 0), ask(1, n, 1), ask(0, n, 0), ask(1, -1, 1), ask(0, -1, 0), ask(1, who+1<<32, 1)}
		for other := range who {
			bad = append(bad, ask(1, other, 1))
		}
		for _, time := range badTimes {
			bad = append(bad, ask(time, who, 1), ask(time, 0, 0))
		}
		for _, amount := range badAmounts {
			bad = append(bad, ask(1, who, amount), ask(0, 0, amount))
		}
		for _, m := range []api.Mail{bare(c, who, 0), full(c, who, 0)} {
			for _, head := range good {
				holdMay(t, c, with(m, func(m *api.Mail) { m.Head = head }), true)
			}
			for _, head := range bad {
				holdMay(t, c, with(m, func(m *api.Mail) { m.Head = head }), false)
			}
		}
	}
}

// TestAsks: P16.1, Asks from 0 to R, below and above, whether somebody waits or not.
func TestAsks(t *testing.T) {
	for _, n := range []int{2, 16} {
		for r := range 9 {
			c := config(n)
			c.R = r
			for _, m := range []api.Mail{bare(c, 1, 0), full(c, 1, 0)} {
				for _, asks := range []int{-9, -1, 0, 1, 2, 3, 4, 5, 6, 7, 8, 9, 127, 128, 1 << 32, math.MinInt, math.MaxInt} {
					holdMay(t, c, with(m, func(m *api.Mail) { m.Asks = asks }), 0 <= asks && asks <= r)
				}
			}
		}
	}
}

// goodLooks are none, and such as may be.
var goodLooks = []api.Look{{}, {Try: 1, Phase: 1}, {Try: 1, Phase: 2}, {Try: 128, Phase: 1}, {Try: mostTime - 1, Phase: 2}, {Try: mostTime, Phase: 1}, {Try: mostTime, Phase: 2}}

// badLooks are such as may not be: one lacks just one thing of none, or just one thing is wrong with it.
func badLooks() []api.Look {
	list := []api.Look{{Phase: 1}, {Phase: 2}, {Phase: 3}, {Phase: -1}, {Try: 1}, {Try: mostTime}}
	for _, phase := range []int{3, 4, -1, -2, 127, 128, 1<<32 + 1, math.MinInt, math.MinInt + 1, math.MaxInt} {
		list = append(list, api.Look{Try: 1, Phase: phase}, api.Look{Try: mostTime, Phase: phase})
	}
	for _, try := range badTimes {
		list = append(list, api.Look{Try: try}, api.Look{Try: try, Phase: 1}, api.Look{Try: try, Phase: 2})
	}
	return list
}

// TestLook: P16.1, a Look that is none, such as may be, and such as may not.
func TestLook(t *testing.T) {
	for _, n := range []int{2, 3, 16} {
		c := config(n)
		for _, m := range []api.Mail{bare(c, 1, 0), full(c, 0, 1)} {
			for _, k := range goodLooks {
				holdMay(t, c, with(m, func(m *api.Mail) { m.Look = k }), true)
			}
			for _, k := range badLooks() {
				holdMay(t, c, with(m, func(m *api.Mail) { m.Look = k }), false)
			}
		}
	}
}

// TestEcho: P16.1, an Echo of as many looks as there are replicas, of too few, of too many; in each place a look that is none, that may be, and that may not; that of the sender is none.
func TestEcho(t *testing.T) {
	for _, n := range []int{2, 3, 16} {
		c := config(n)
		for _, m := range []api.Mail{bare(c, 1, 0), full(c, n-1, 0)} {
			for have := range 40 {
				holdMay(t, c, with(m, func(m *api.Mail) { m.Echo = make([]api.Look, have) }), have == n)
			}
			holdMay(t, c, with(m, func(m *api.Mail) { m.Echo = append(m.Echo, api.Look{Try: 1, Phase: 1}) }), false)
			holdMay(t, c, with(m, func(m *api.Mail) { m.Echo = m.Echo[1:] }), false)
			for who := range n {
				for _, k := range goodLooks {
					holdMay(t, c, with(m, func(m *api.Mail) { m.Echo[who] = k }), who != m.From || k == api.Look{})
				}
				for _, k := range badLooks() {
					holdMay(t, c, with(m, func(m *api.Mail) { m.Echo[who] = k }), false)
				}
			}
		}
	}
}

// TestCounts: P16.1, messages with more and fewer rows, and more and fewer Outs, than there are replicas: their bytes are put, and taken as no message, but where they are those of another one that may be, too.
func TestCounts(t *testing.T) {
	for _, n := range []int{1, 2, 3, 16} {
		c := config(n)
		for have := range 20 {
			for outs := range 20 {
				m := bare(c, 0, 1)
				m.Rows = make([]api.Row, have)
				for who := range m.Rows {
					m.Rows[who].Out = make([]int64, outs)
				}
				holdPut(t, m, words(m))
				// No count is among the bytes: rows of as many numbers in all are told apart by nothing.
				if n > 1 && have*(2+outs) == n*(2+n) {
					hold(t, "P16.1", c, mail.Put(m), bare(c, 0, 1))
				} else {
					holdNone(t, c, mail.Put(m))
				}
			}
		}
		for who := range n {
			m := bare(c, 0, 1)
			holdMay(t, c, with(m, func(m *api.Mail) { m.Rows[who].Out = append(m.Rows[who].Out, 0) }), false)
			holdMay(t, c, with(m, func(m *api.Mail) { m.Rows[who].Out = m.Rows[who].Out[1:] }), false)
			holdMay(t, c, with(m, func(m *api.Mail) { m.Rows[who].Out = nil }), false)
		}
	}
}

// TestCountsAbove: P16.1, bytes of a message among few, taken by configs of more and of fewer replicas, also of more than all the bytes could hold, and of more than may be: none.
func TestCountsAbove(t *testing.T) {
	for n := 2; n <= 16; n++ {
		for _, m := range []api.Mail{bare(config(n), 1, 0), full(config(n), 1, 0)} {
			b := words(m)
			for other := range 20 {
				if other != n {
					holdNone(t, config(other), b)
				}
			}
			for _, far := range []int{-1, -n, 1 << 20, 1 << 40, 1 << 62, math.MinInt, math.MaxInt} {
				holdNone(t, config(far), b)
			}
			hold(t, "P16.1", config(n), b, m)
		}
	}
	// Bytes that would be those of a count of rows, of Outs or of looks, if there were such a count.
	c := config(2)
	m := bare(c, 1, 0)
	b := words(m)
	for _, at := range []int{3, 5, len(b) - 4} {
		for _, count := range []int64{0, 1, 2, 3, 128, mostTime, math.MaxInt64, -1} {
			holdNone(t, c, slices.Insert(slices.Clone(b), at, digits(count)...))
		}
	}
}

// TestOne: P16.1, alone (N 1) there is nobody to tell: no message may be, whatever the bytes.
func TestOne(t *testing.T) {
	c := config(1)
	for from := -1; from < 3; from++ {
		for to := -1; to < 3; to++ {
			holdMay(t, c, bare(c, from, to), false)
			holdMay(t, c, api.Mail{From: from, To: to, Clock: 1, Rows: []api.Row{of(5, 1, 0)}, Head: ask(1, 0, 1), Look: api.Look{Try: 1, Phase: 1}, Echo: []api.Look{{}}}, false)
			holdMay(t, c, api.Mail{From: from, To: to, Clock: 1, Rows: rights.New(c), Echo: []api.Look{{Try: 1, Phase: 1}}}, false)
		}
	}
}

// TestHowMany: P16.1 and P16.2, of each number of replicas that may be, each of them tells each other one.
func TestHowMany(t *testing.T) {
	for n := 2; n <= 16; n++ {
		c := config(n)
		for from := range n {
			for to := range n {
				holdMay(t, c, bare(c, from, to), from != to)
				holdMay(t, c, full(c, from, to), from != to)
			}
		}
	}
}

// TestWrongConfigs: P16.1, by a config that may not be nothing is taken, not even what would be by another one.
func TestWrongConfigs(t *testing.T) {
	for _, c := range wrongConfigs() {
		for _, m := range []api.Mail{bare(config(2), 1, 0), full(config(2), 0, 1), {}, {From: 1, Clock: 1}} {
			holdMay(t, c, m, false)
		}
		for size := range 60 {
			holdNone(t, c, make([]byte, size))
		}
	}
	holdMay(t, config(2), full(config(2), 0, 1), true)
}

// TestOtherConfigs: P16.1, one message that may be by some configs, and may not be by others.
func TestOtherConfigs(t *testing.T) {
	m := api.Mail{From: 1, To: 0, Clock: 9, Rows: []api.Row{of(5, 0, 0, 2), of(0, 5, 0, 0)}, Head: ask(3, 1, 4), Asks: 2, Echo: make([]api.Look, 2)}
	for _, c := range []api.Config{
		{N: 2, Q: 1, R: 2, P: 1, K: 6, C: 5},
		{N: 2, Q: 8, R: 8, P: 16, K: 6, C: 5},
		{N: 2, Q: 1, R: 2, P: 1, K: 7, C: 5},
		{N: 2, Q: 1, R: 2, P: 1, K: 6, C: 6},
		{N: 2, Q: 1, R: 2, P: 1, K: mostAmount - 10, C: 5},
	} {
		holdMay(t, c, m, true)
	}
	for _, c := range []api.Config{
		{N: 2, Q: 1, R: 1, P: 1, K: 6, C: 5}, // asked for too often
		{N: 2, Q: 1, R: 0, P: 1, K: 6, C: 5},
		{N: 2, Q: 1, R: 2, P: 1, K: 5, C: 5}, // rights below 0
		{N: 2, Q: 1, R: 2, P: 1, K: 6, C: 4}, // above C
		{N: 3, Q: 1, R: 2, P: 1, K: 9, C: 5},
		{N: 1, Q: 1, R: 2, P: 1, K: 9, C: 5},
		{N: 2, Q: 0, R: 2, P: 1, K: 6, C: 5}, // may not be
		{N: 2, Q: 1, R: 2, P: 0, K: 6, C: 5},
		{N: 2, Q: 1, R: 2, P: 1, K: mostAmount - 9, C: 5},
	} {
		holdMay(t, c, m, false)
	}
}

// drawnNumber is one of few bits, of many, or an edge.
func drawnNumber(draw *rand.Rand) int64 {
	if draw.Intn(2) == 0 {
		return edges[draw.Intn(len(edges))].v
	}
	return int64(draw.Uint64() >> draw.Intn(64))
}

// drawnConfig is one that may be.
func drawnConfig(draw *rand.Rand) api.Config {
	c := api.Config{N: 1 + draw.Intn(4), Q: 1 + draw.Intn(8), R: draw.Intn(9), P: 1 + draw.Intn(16), K: draw.Int63n(400), C: draw.Int63n(200)}
	if draw.Intn(4) == 0 {
		c.N = 1 + draw.Intn(16)
		c.C = draw.Int63n(mostAmount/int64(c.N) + 1)
		c.K = draw.Int63n(mostAmount - int64(c.N)*c.C + 1)
	}
	return c
}

// drawnBooks are right books behind some steps.
func drawnBooks(draw *rand.Rand, c api.Config) []api.Row {
	l := rights.New(c)
	for range draw.Intn(20) {
		who, amount := draw.Intn(c.N), 1+draw.Int63n(6)
		if most := rights.Of(c, l, who); most > 0 && draw.Intn(2) == 0 {
			amount = 1 + draw.Int63n(most)
		}
		out, code := rights.Put(c, l, who, amount)
		switch draw.Intn(4) {
		case 0:
			out, code = rights.Take(c, l, who, amount)
		case 1, 2:
			out, code = rights.Move(c, l, who, draw.Intn(c.N), amount)
		}
		if code == api.OK {
			l = out
		}
	}
	return l
}

// drawnTime is one that may be.
func drawnTime(draw *rand.Rand) int64 {
	return 1 + draw.Int63n(mostTime)>>draw.Intn(50)
}

// drawnLook is none, or one that may be.
func drawnLook(draw *rand.Rand) api.Look {
	if draw.Intn(3) == 0 {
		return api.Look{}
	}
	return api.Look{Try: drawnTime(draw), Phase: 1 + draw.Intn(2)}
}

// drawnMail is a message that may be, of a config of 2 replicas or more.
func drawnMail(draw *rand.Rand, c api.Config) api.Mail {
	m := api.Mail{From: draw.Intn(c.N), Clock: drawnTime(draw), Rows: drawnBooks(draw, c), Asks: draw.Intn(c.R + 1), Look: drawnLook(draw)}
	m.To = (m.From + 1 + draw.Intn(c.N-1)) % c.N
	if draw.Intn(3) > 0 {
		m.Head = ask(drawnTime(draw), m.From, 1+draw.Int63n(mostAmount)>>draw.Intn(40))
	}
	for range c.N {
		m.Echo = append(m.Echo, drawnLook(draw))
	}
	m.Echo[m.From] = api.Look{}
	return m
}

// anyMail is a message of any numbers and lists.
func anyMail(draw *rand.Rand) api.Mail {
	number := func() int64 { return drawnNumber(draw) }
	m := api.Mail{From: int(number()), To: int(number()), Clock: number(), Head: ask(number(), int(number()), number()), Asks: int(number()), Look: api.Look{Try: number(), Phase: int(number())}}
	for range draw.Intn(20) {
		r := of(number(), number())
		for range draw.Intn(20) {
			r.Out = append(r.Out, number())
		}
		m.Rows = append(m.Rows, r)
	}
	for range draw.Intn(20) {
		m.Echo = append(m.Echo, api.Look{Try: number(), Phase: int(number())})
	}
	return m
}

// spoilt are bytes of which one is another one, one is more, one is fewer, or some numbers are others.
func spoilt(draw *rand.Rand, b []byte) []byte {
	b = slices.Clone(b)
	at := draw.Intn(len(b))
	switch draw.Intn(7) {
	case 0:
		b[at] = byte(draw.Intn(256))
	case 1:
		b[at] ^= 1 << draw.Intn(8)
	case 2:
		return slices.Insert(b, at, byte(draw.Intn(256)))
	case 3:
		return slices.Delete(b, at, at+1)
	case 4:
		return slices.Insert(b, at, digits(drawnNumber(draw))...)
	case 5:
		return slices.Replace(b, at, at+1, []byte(noNumber[draw.Intn(len(noNumber))])...)
	default:
		if b[at] < 127 {
			b[at]++
		}
	}
	return b
}

// TestPutByWords: P16.1, messages of any numbers, and with any lists, and whose bytes these are by configs of any number of replicas.
func TestPutByWords(t *testing.T) {
	draw := rand.New(rand.NewSource(161))
	for range 5000 {
		m := anyMail(draw)
		holdPut(t, m, words(m))
		holdWords(t, drawnConfig(draw), words(m))
		holdWords(t, config(len(m.Rows)), words(m))
	}
}

// TestTakeByWords: P16.1, bytes of messages that may be, whole and spoilt, and drawn bytes, by configs that are theirs and others.
func TestTakeByWords(t *testing.T) {
	draw := rand.New(rand.NewSource(162))
	some := map[bool]int{}
	for range 20000 {
		c := drawnConfig(draw)
		c.N = max(c.N, 2)
		if !rights.May(c) {
			continue
		}
		b := words(drawnMail(draw, c))
		for range draw.Intn(4) {
			b = spoilt(draw, b)
		}
		if draw.Intn(16) == 0 {
			b = make([]byte, draw.Intn(60))
			draw.Read(b)
		}
		if draw.Intn(8) == 0 {
			c = drawnConfig(draw)
		}
		some[holdWords(t, c, b)]++
	}
	if some[true] < 3000 || some[false] < 3000 {
		t.Errorf("too few of a kind were tried: %v", some)
	}
}

// TestTakeSmall: P16.1, drawn bytes of as many numbers as a message has, most of them small: some are right by chance.
func TestTakeSmall(t *testing.T) {
	draw := rand.New(rand.NewSource(163))
	c, some := config(2), map[bool]int{}
	for range 40000 {
		b := make([]byte, 21)
		for at := range b {
			b[at] = byte(draw.Intn(1 + draw.Intn(2) + draw.Intn(2)*draw.Intn(3)))
		}
		some[holdWords(t, c, b)]++
	}
	if some[true] < 30 || some[false] < 3000 {
		t.Errorf("too few of a kind were tried: %v", some)
	}
}

// TestPutIsTaken: P16.2, what may be is taken as it was put, and by no more and no fewer bytes.
func TestPutIsTaken(t *testing.T) {
	draw := rand.New(rand.NewSource(164))
	for range 10000 {
		c := drawnConfig(draw)
		c.N = max(c.N, 2)
		if !rights.May(c) {
			continue
		}
		m := drawnMail(draw, c)
		if !claim.MayMail(c, m) {
			t.Fatalf("the test's own draws: %+v may not be by %+v", m, c)
		}
		b := mail.Put(m)
		hold(t, "P16.2", c, b, m)
		holdNone(t, c, b[:draw.Intn(len(b))])
		holdNone(t, c, append(b, byte(draw.Intn(256))))
	}
}

// TestTakenIsPut: P16.2, the other way round: what is taken may be, and is put as the bytes that it was taken from.
func TestTakenIsPut(t *testing.T) {
	draw := rand.New(rand.NewSource(165))
	some := 0
	for range 20000 {
		c := config(2 + draw.Intn(3))
		b := words(drawnMail(draw, c))
		for range draw.Intn(4) {
			b = spoilt(draw, b)
		}
		m, ok := mail.Take(c, b)
		if !ok {
			continue
		}
		some++
		if !claim.MayMail(c, m) || !bytes.Equal(mail.Put(m), b) {
			t.Errorf("P16.2: Take(%+v, %x): %+v", c, b, m)
		}
	}
	if some < 5000 {
		t.Errorf("too few were taken: %d", some)
	}
}

// TestPutMuch: P16.1, many rows and many looks: what stands there already isn't gone through for each number anew.
func TestPutMuch(t *testing.T) {
	m := api.Mail{Rows: slices.Repeat([]api.Row{of(1, 300, 0, 127)}, 1<<17), Echo: slices.Repeat([]api.Look{{Try: 300, Phase: 2}}, 1<<18)}
	if got := mail.Put(m); !bytes.Equal(got, words(m)) {
		t.Errorf("P16.1: Put, of much: %d bytes", len(got))
	}
	holdNone(t, config(16), words(m))
}

// roomy is the same list with room behind it, in which such elements stand.
func roomy[T any](l []T, x T) []T {
	return append(slices.Clone(l), x, x, x, x, x, x, x, x, x, x, x, x)[:len(l)]
}

// handed is a message that may be, all of whose lists have spare room, none of it zero.
func handed(c api.Config) api.Mail {
	m := full(c, 1, 0)
	for i, r := range m.Rows {
		m.Rows[i].Out = roomy(r.Out, -7)
	}
	m.Rows = roomy(m.Rows, of(-9, -9, -9))
	m.Echo = roomy(m.Echo, api.Look{Try: -9, Phase: -9})
	return m
}

// room is all that a message holds, its spare room too, in memory of its own.
func room(m api.Mail) []any {
	all := []any{m.From, m.To, m.Clock, m.Head, m.Asks, m.Look, len(m.Rows), len(m.Echo), slices.Clone(m.Echo[:cap(m.Echo)])}
	for _, r := range m.Rows[:cap(m.Rows)] {
		all = append(all, r.Inc, r.Use, len(r.Out), slices.Clone(r.Out[:cap(r.Out)]))
	}
	return all
}

// TestPutStays: rules 3 and 4, the message that came in stays as it was, its spare room too; what was answered doesn't change with it, nor with other answers.
func TestPutStays(t *testing.T) {
	for _, n := range []int{2, 3, 16} {
		m := handed(config(n))
		kept, want := room(m), words(m)
		for range 3 {
			b := mail.Put(m)
			if !bytes.Equal(b, want) {
				t.Fatalf("rule 4: Put: %x, want %x", b, want)
			}
			clear(b[:cap(b)])
			if now := room(m); !reflect.DeepEqual(now, kept) {
				t.Fatalf("rule 3: the message that came in is %+v now, want %+v", now, kept)
			}
		}
		first, second := mail.Put(m), mail.Put(m)
		_ = append(second, "more"...)
		clear(second)
		m.Rows[0].Use, m.Rows[1].Out[0], m.Echo[0] = 99, 99, api.Look{}
		if !bytes.Equal(first, want) {
			t.Errorf("rule 3: Put: it was %x, and is %x now", want, first)
		}
	}
}

// spoil writes over all that a message holds, its spare room too.
func spoil(m api.Mail) {
	for _, r := range m.Rows {
		out := r.Out[:cap(r.Out)]
		for i := range out {
			out[i] = -5
		}
	}
	rows, echo := m.Rows[:cap(m.Rows)], m.Echo[:cap(m.Echo)]
	for i := range rows {
		rows[i] = of(-5, -5, -5)
	}
	for i := range echo {
		echo[i] = api.Look{Try: -5, Phase: -5}
	}
}

// TestTakeStays: rules 3 and 4, the bytes that came in stay as they were, their spare room too, whether they are a message's or not; what was answered doesn't change with them, nor with other answers.
func TestTakeStays(t *testing.T) {
	for _, n := range []int{2, 3, 16} {
		c := config(n)
		want := full(c, 1, 0)
		whole := words(want)
		for _, size := range []int{len(whole), len(whole) - 1, 4, 1, 0} {
			b := roomy(whole[:size], 'r')
			kept := slices.Clone(b[:cap(b)])
			for range 3 {
				m, ok := mail.Take(c, b)
				if ok != (size == len(whole)) {
					t.Fatalf("rule 4: Take(%+v, %x): %t", c, b, ok)
				}
				spoil(m)
				if now := b[:cap(b)]; !bytes.Equal(now, kept) {
					t.Fatalf("rule 3: the bytes that came in are %x now, want %x", now, kept)
				}
			}
		}
		b := roomy(whole, 'r')
		first, _ := mail.Take(c, b)
		second, _ := mail.Take(c, b)
		clear(b[:cap(b)])
		spoil(second)
		if !same(first, want) {
			t.Errorf("rule 3: Take: it was %+v, and is %+v now", want, first)
		}
		holdNone(t, c, b)
	}
}

// TestListsApart: no two lists of one answer share memory.
func TestListsApart(t *testing.T) {
	c := config(4)
	want := full(c, 1, 0)
	m, _ := mail.Take(c, words(want))
	for who := range m.Rows {
		out := m.Rows[who].Out[:cap(m.Rows[who].Out)]
		for i := range out {
			out[i] = 77
		}
		want.Rows[who].Out = []int64{77, 77, 77, 77}
		if !same(m, want) {
			t.Errorf("rule 7: the Outs of row %d share memory: %+v, want %+v", who, m, want)
		}
	}
}
