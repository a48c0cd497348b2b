package book_test

import (
	"bytes"
	"encoding/binary"
	"math"
	"math/rand"
	"reflect"
	"slices"
	"strings"
	"testing"

	"coffers/api"
	"coffers/audit"
	"coffers/book"
	"coffers/claim"
	"coffers/frame"
	"coffers/line"
	"coffers/rights"
	"coffers/row"
)

// The greatest amount and the greatest time that may be.
const (
	mostAmount = 1 << 40
	mostTime   = 1 << 50
)

// edges are numbers about whose bytes something changes, and these bytes, written out.
var edges = []struct {
	v     int64
	bytes string
}{
	{0, "\x00"},
	{1, "\x01"},
	{127, "\x7F"},
	{128, "\x80\x01"},
	{129, "\x81\x01"},
	{300, "\xAC\x02"},
	{16383, "\xFF\x7F"},
	{16384, "\x80\x80\x01"},
	{mostAmount, "\x80\x80\x80\x80\x80\x20"},
	{mostTime, "\x80\x80\x80\x80\x80\x80\x80\x02"},
	{math.MaxInt64, "\xFF\xFF\xFF\xFF\xFF\xFF\xFF\xFF\x7F"},
	{math.MinInt64, "\x80\x80\x80\x80\x80\x80\x80\x80\x80\x01"},
	{math.MinInt64 + 1, "\x81\x80\x80\x80\x80\x80\x80\x80\x80\x01"},
	{-1, "\xFF\xFF\xFF\xFF\xFF\xFF\xFF\xFF\xFF\x01"},
	{-2, "\xFE\xFF\xFF\xFF\xFF\xFF\xFF\xFF\xFF\x01"},
	{-127, "\x81\xFF\xFF\xFF\xFF\xFF\xFF\xFF\xFF\x01"},
	{-128, "\x80\xFF\xFF\xFF\xFF\xFF\xFF\xFF\xFF\x01"},
	{-129, "\xFF\xFE\xFF\xFF\xFF\xFF\xFF\xFF\xFF\x01"},
}

// noNumber are bytes that layer 2 has as none, whatever stands behind them.
var noNumber = []string{
	"\x80\x00", // more than as few as can be
	"\x81\x00",
	"\x80\x80\x00",
	"\xFF\x80\x80\x80\x80\x80\x80\x80\x80\x00",
	"\x80\x80\x80\x80\x80\x80\x80\x80\x80\x02", // 2^64
	"\xFF\xFF\xFF\xFF\xFF\xFF\xFF\xFF\xFF\x7F",
	"\x80\x80\x80\x80\x80\x80\x80\x80\x80\x80\x01",
	"\xFF\xFF\xFF\xFF\xFF\xFF\xFF\xFF\xFF\xFF\xFF\xFF",
}

// badTimes and badAmounts are such as may not be, 0 aside: the ones next to those that may be, the ends of 64 bits, and such as would come out as another one in fewer bits.
var (
	badTimes   = []int64{-1, -2, mostTime + 1, mostTime + 2, 2 * mostTime, -mostTime, -1 << 32, 1<<63 - mostTime, math.MinInt64, math.MinInt64 + 1, math.MaxInt64}
	badAmounts = []int64{-1, -2, mostAmount + 1, mostAmount + 2, mostTime, -mostAmount, -1 << 32, 1 << 62, math.MinInt64, math.MinInt64 + 1, math.MaxInt64}
)

// someN are the least numbers of replicas, and the most that may be.
var someN = []int{1, 2, 3, 16}

// farWhos are no replicas of n.
func farWhos(n int) []int {
	return []int{-1, -2, -n, -1 << 32, n, n + 1, n + 16, n + 1<<32, 1 << 62, math.MinInt, math.MinInt + n - 1, math.MaxInt}
}

// config is one of n replicas that has few of everything.
func config(n int) api.Config {
	return api.Config{N: n, Q: 3, R: 3, P: 1, K: 1600, C: 200}
}

// wrongConfigs are some that may not be, of 2 replicas where they can: one thing is wrong with each.
func wrongConfigs() []api.Config {
	list := []api.Config{{}}
	for _, spoil := range []func(c *api.Config){
		func(c *api.Config) { c.N = 0 },
		func(c *api.Config) { c.N = -1 },
		func(c *api.Config) { c.N = -2 },
		func(c *api.Config) { c.N = 17 },
		func(c *api.Config) { c.N = 1 << 40 },
		func(c *api.Config) { c.N = math.MinInt },
		func(c *api.Config) { c.N = math.MaxInt },
		func(c *api.Config) { c.Q = 0 },
		func(c *api.Config) { c.Q = -1 },
		func(c *api.Config) { c.Q = 9 },
		func(c *api.Config) { c.Q = math.MaxInt },
		func(c *api.Config) { c.R = -1 },
		func(c *api.Config) { c.R = 9 },
		func(c *api.Config) { c.P = 0 },
		func(c *api.Config) { c.P = 17 },
		func(c *api.Config) { c.K = -1 },
		func(c *api.Config) { c.K = mostAmount + 1 },
		func(c *api.Config) { c.C = -1 },
		func(c *api.Config) { c.C = mostAmount },
		func(c *api.Config) { c.C = math.MaxInt64 },
	} {
		c := config(2)
		spoil(&c)
		list = append(list, c)
	}
	return list
}

// of is a row, written short.
func of(inc, use int64, out ...int64) api.Row { return api.Row{Inc: inc, Use: use, Out: out} }

// ask is a request, written short.
func ask(time int64, who int, amount int64) api.Request {
	return api.Request{Id: api.Stamp{Time: time, Who: who}, Amount: amount}
}

// end is an outcome, written short.
func end(time int64, who int, code api.Code) api.Outcome {
	return api.Outcome{Id: api.Stamp{Time: time, Who: who}, Code: code}
}

// bare is the least book that may be; it is the same for each replica.
func bare(c api.Config) api.Book {
	return api.Book{Rows: rights.New(c), Notes: make([]api.Note, c.N)}
}

// run is an audit of who that runs in that phase: by it each other replica of an even number told.
func run(c api.Config, who, phase int) api.Audit {
	a := api.Audit{Look: api.Look{Try: 900, Phase: phase}}
	for of := range c.N {
		a.Told = append(a.Told, of != who && of%2 == 0)
		a.Use, a.Inc = append(a.Use, 150+int64(of)), append(a.Inc, 260+int64(of))
	}
	return a
}

// full is a book that may be, of which each number that may be more than 0 is so, one unlike the other where it can; as many wait, and have their outcome, as may.
func full(c api.Config, who int) api.Book {
	k := api.Book{Clock: 1000, Rows: rights.New(c), Asks: c.R, Notes: make([]api.Note, c.N), Audit: run(c, who, 1+who%2)}
	for w := range k.Rows {
		k.Rows[w].Inc, k.Rows[w].Use = 128+int64(w), 20+int64(w)
		for other := range k.Rows {
			if other != w {
				// Alike to and fro: the rights stay as they were.
				k.Rows[w].Out[other] = 40000 + int64(100*min(w, other)+max(w, other))
				k.Notes[other] = api.Note{Clock: 2000 + int64(other), Head: ask(130+int64(other), other, 310+int64(other)), Asks: 1 + other%c.R, Look: api.Look{Try: 500 + int64(other), Phase: 1 + other%2}}
			}
		}
	}
	for i := range c.Q {
		k.Line = append(k.Line, ask(700+int64(i), who, 77+int64(i)))
	}
	for i := range c.Q + 1 {
		k.Outs = append(k.Outs, end(600+int64(i), who, []api.Code{api.Lacking, api.OK}[i%2]))
	}
	k.Notes[who] = api.Note{}
	k.Audit.Moved = true
	return k
}

// waiting is a bare book, in which one request waits, and one has its outcome.
func waiting(c api.Config, who int) api.Book {
	k := bare(c)
	k.Clock, k.Line, k.Outs = 9, []api.Request{ask(9, who, 1)}, []api.Outcome{end(9, who, api.OK)}
	return k
}

// copied is the same book, in memory of its own.
func copied(k api.Book) api.Book {
	rows := slices.Clone(k.Rows)
	for i, r := range rows {
		rows[i].Out = slices.Clone(r.Out)
	}
	k.Rows, k.Line, k.Outs, k.Notes = rows, slices.Clone(k.Line), slices.Clone(k.Outs), slices.Clone(k.Notes)
	k.Audit.Told, k.Audit.Use, k.Audit.Inc = slices.Clone(k.Audit.Told), slices.Clone(k.Audit.Use), slices.Clone(k.Audit.Inc)
	return k
}

// with is the same book, in memory of its own, with something done to it.
func with(k api.Book, change func(k *api.Book)) api.Book {
	k = copied(k)
	change(&k)
	return k
}

// sameAudit: are two audits the same, lists element by element?
func sameAudit(a, b api.Audit) bool {
	return a.Look == b.Look && slices.Equal(a.Told, b.Told) && slices.Equal(a.Use, b.Use) && slices.Equal(a.Inc, b.Inc) && a.Moved == b.Moved
}

// isNone: is it no audit?
func isNone(a api.Audit) bool { return sameAudit(a, api.Audit{}) }

// same: are two books the same, lists element by element?
func same(a, b api.Book) bool {
	lists := slices.EqualFunc(a.Rows, b.Rows, row.Same) && slices.Equal(a.Line, b.Line) && slices.Equal(a.Outs, b.Outs) && slices.Equal(a.Notes, b.Notes)
	return lists && a.Clock == b.Clock && a.Asks == b.Asks && sameAudit(a.Audit, b.Audit)
}

// bookMay: the words of a book of who.
func bookMay(c api.Config, who int, k api.Book) bool {
	if !rights.Right(c, k.Rows) || !line.May(c, who, k.Line) || !claim.May(c, who, k.Notes) || !audit.May(c, who, k.Audit) {
		return false
	}
	if len(k.Outs) > c.Q+1 || k.Clock < 0 || k.Clock > mostTime || k.Asks < 0 || k.Asks > c.R {
		return false
	}
	for _, o := range k.Outs {
		if o.Code != 0 && o.Code != 7 || o.Id.Who != who || o.Id.Time < 1 || o.Id.Time > k.Clock {
			return false
		}
	}
	for _, r := range k.Line {
		if r.Id.Time > k.Clock {
			return false
		}
	}
	return len(k.Line) > 0 || k.Asks == 0 && isNone(k.Audit)
}

// place is a number of a book, in the order of the bytes: its name, what it is, and how it is changed; nil, if it is a count, or a 0 or 1.
type place struct {
	name string
	v    int64
	set  func(v int64)
}

// places are the numbers of a book, in order.
func places(k *api.Book) (l []place) {
	long := func(name string, p *int64) { l = append(l, place{name, *p, func(v int64) { *p = v }}) }
	whole := func(name string, p *int) { l = append(l, place{name, int64(*p), func(v int64) { *p = int(v) }}) }
	count := func(name string, n int) { l = append(l, place{name, int64(n), nil}) }
	flag := func(is bool) {
		if is {
			count("flag", 1)
		} else {
			count("flag", 0)
		}
	}
	look := func(x *api.Look) {
		long("try", &x.Try)
		whole("phase", &x.Phase)
	}
	long("clock", &k.Clock)
	for i := range k.Rows {
		long("inc", &k.Rows[i].Inc)
		long("use", &k.Rows[i].Use)
		for o := range k.Rows[i].Out {
			long("out", &k.Rows[i].Out[o])
		}
	}
	count("line", len(k.Line))
	for i := range k.Line {
		long("time", &k.Line[i].Id.Time)
		long("amount", &k.Line[i].Amount)
	}
	count("outs", len(k.Outs))
	for i, o := range k.Outs {
		long("time", &k.Outs[i].Id.Time)
		l = append(l, place{"code", int64(o.Code), func(v int64) { k.Outs[i].Code = api.Code(v) }})
	}
	whole("asks", &k.Asks)
	for i := range k.Notes {
		long("clock", &k.Notes[i].Clock)
		long("time", &k.Notes[i].Head.Id.Time)
		whole("who", &k.Notes[i].Head.Id.Who)
		long("amount", &k.Notes[i].Head.Amount)
		whole("asks", &k.Notes[i].Asks)
		look(&k.Notes[i].Look)
	}
	look(&k.Audit.Look)
	if isNone(k.Audit) {
		return l
	}
	for i, told := range k.Audit.Told {
		flag(told)
		for _, list := range [][]int64{k.Audit.Use, k.Audit.Inc} {
			if i < len(list) {
				long("told", &list[i])
			} else {
				count("lacking", 0)
			}
		}
	}
	flag(k.Audit.Moved)
	return l
}

// values are the numbers that stand in these places.
func values(l []place) (some []int64) {
	for _, p := range l {
		some = append(some, p.v)
	}
	return some
}

// numbers are those of a book, in order.
func numbers(k api.Book) []int64 { return values(places(&k)) }

// find is where in the bytes of a book its numbers of that name stand: from where, and to where.
func find(k api.Book, name string) (spans [][2]int) {
	at := 0
	for _, p := range places(&k) {
		if p.name == name {
			spans = append(spans, [2]int{at, at + len(digits(p.v))})
		}
		at += len(digits(p.v))
	}
	return spans
}

// digits are a number's bytes.
func digits(v int64) []byte { return binary.AppendUvarint(nil, uint64(v)) }

// painted are the bytes of these numbers.
func painted(l ...int64) (b []byte) {
	for _, v := range l {
		b = append(b, digits(v)...)
	}
	return b
}

// words are the bytes of a book, as the chapter's words have them.
func words(k api.Book) []byte { return painted(numbers(k)...) }

// swapped are the bytes in which others stand in that place.
func swapped(b []byte, span [2]int, others []byte) []byte {
	return slices.Concat(b[:span[0]], others, b[span[1]:])
}

// read are the numbers whose bytes b are, all of them; false, if there are none such.
func read(b []byte) (l []int64, ok bool) {
	for len(b) > 0 {
		v, n := binary.Uvarint(b)
		if n <= 0 || !bytes.Equal(b[:n], digits(int64(v))) {
			return nil, false
		}
		l, b = append(l, int64(v)), b[n:]
	}
	return l, true
}

// pile are numbers that are taken one after the other, and whether there were enough of them.
type pile struct {
	l    []int64
	more bool
}

func (p *pile) next() int64 {
	if len(p.l) == 0 {
		p.more = false
		return 0
	}
	v := p.l[0]
	p.l = p.l[1:]
	return v
}

func (p *pile) count() int {
	v := p.next()
	if v < 0 || v > int64(len(p.l)) {
		p.more = false
		return 0
	}
	return int(v)
}

func (p *pile) flag() bool {
	v := p.next()
	p.more = p.more && (v == 0 || v == 1)
	return v == 1
}

func (p *pile) look() api.Look {
	try := p.next()
	return api.Look{Try: try, Phase: int(p.next())}
}

func (p *pile) note() api.Note {
	var n api.Note
	n.Clock, n.Head.Id.Time = p.next(), p.next()
	n.Head.Id.Who = int(p.next())
	n.Head.Amount = p.next()
	n.Asks = int(p.next())
	n.Look = p.look()
	return n
}

// taken: the words of Take.
func taken(c api.Config, who int, b []byte) (api.Book, bool) {
	l, ok := read(b)
	if !ok || !rights.May(c) || who < 0 || who >= c.N {
		return api.Book{}, false
	}
	p := pile{l: l, more: true}
	k := bare(c)
	k.Clock = p.next()
	for i := range k.Rows {
		k.Rows[i].Inc, k.Rows[i].Use = p.next(), p.next()
		for o := range k.Rows[i].Out {
			k.Rows[i].Out[o] = p.next()
		}
	}
	for range p.count() {
		k.Line = append(k.Line, ask(p.next(), who, p.next()))
	}
	for range p.count() {
		k.Outs = append(k.Outs, end(p.next(), who, api.Code(p.next())))
	}
	k.Asks = int(p.next())
	for i := range k.Notes {
		k.Notes[i] = p.note()
	}
	k.Audit.Look = p.look()
	if k.Audit.Look.Try != 0 || k.Audit.Look.Phase != 0 {
		for range c.N {
			k.Audit.Told = append(k.Audit.Told, p.flag())
			k.Audit.Use = append(k.Audit.Use, p.next())
			k.Audit.Inc = append(k.Audit.Inc, p.next())
		}
		k.Audit.Moved = p.flag()
	}
	if !p.more || len(p.l) > 0 || !bookMay(c, who, k) {
		return api.Book{}, false
	}
	return k, true
}

// holdPut: Put(k) answers these bytes.
func holdPut(t *testing.T, k api.Book, want []byte) {
	t.Helper()
	if got := book.Put(k); !bytes.Equal(got, want) {
		t.Errorf("P17.2: Put(%+v): %x, want %x", k, got, want)
	}
}

// hold: Take(c, who, b) answers this book.
func hold(t *testing.T, promise string, c api.Config, who int, b []byte, want api.Book) {
	t.Helper()
	if k, ok := book.Take(c, who, b); !same(k, want) || !ok {
		t.Errorf("%s: Take(%+v, %d, %x): %+v, %t, want %+v, true", promise, c, who, b, k, ok, want)
	}
}

// holdNone: Take(c, who, b) answers that there is none.
func holdNone(t *testing.T, c api.Config, who int, b []byte) {
	t.Helper()
	if k, ok := book.Take(c, who, b); !same(k, api.Book{}) || ok {
		t.Errorf("P17.2: Take(%+v, %d, %x): %+v, %t, want none, false", c, who, b, k, ok)
	}
}

// holdWords: Take(c, who, b) answers what the words come to; whether that is a book is told, too.
func holdWords(t *testing.T, c api.Config, who int, b []byte) bool {
	t.Helper()
	want, ok := taken(c, who, b)
	if ok {
		hold(t, "P17.2", c, who, b, want)
	} else {
		holdNone(t, c, who, b)
	}
	return ok
}

// holdMay: a book that may be, or may not, is put as the words say, and taken if it may be; else its bytes are those of another one that may be, or of none.
func holdMay(t *testing.T, c api.Config, who int, k api.Book, may bool) {
	t.Helper()
	if got := book.May(c, who, k); got != may {
		t.Errorf("P17.1: May(%+v, %d, %+v): %t, want %t", c, who, k, got, may)
	}
	b := words(k)
	holdPut(t, k, b)
	if may {
		hold(t, "P17.3", c, who, book.Put(k), k)
		hold(t, "P17.2", c, who, b, k)
	} else {
		holdWords(t, c, who, b)
	}
}

// TestNew: P17.1, a book that knows nothing, of each replica, for each N that may be; it may be, and is put as zeros, and taken.
func TestNew(t *testing.T) {
	for n := 1; n <= 16; n++ {
		c := config(n)
		for who := range n {
			k, code := book.New(c, who)
			if !same(k, bare(c)) || code != api.OK {
				t.Errorf("P17.1: New(%+v, %d): %+v, %d, want %+v, 0", c, who, k, code, bare(c))
			}
			holdMay(t, c, who, k, true)
			holdPut(t, k, make([]byte, 1+n*(2+n)+1+1+1+7*n+2))
		}
		for _, who := range farWhos(n) {
			if who < 0 || who >= n {
				holdNoNew(t, c, who)
			}
		}
	}
	for _, c := range wrongConfigs() {
		for _, who := range []int{-1, 0, 1, 2, math.MinInt, math.MaxInt} {
			holdNoNew(t, c, who)
		}
	}
}

// holdNoNew: New(c, who) answers none, and Arg.
func holdNoNew(t *testing.T, c api.Config, who int) {
	t.Helper()
	if k, code := book.New(c, who); !same(k, api.Book{}) || code != api.Arg {
		t.Errorf("P17.1: New(%+v, %d): %+v, %d, want none, 1", c, who, k, code)
	}
}

// TestBound: P17.1, the chapter's example, bounds written out, each N and Q that may be, and configs that may not; R, P, K and C play no part.
func TestBound(t *testing.T) {
	for _, x := range []struct{ n, q, want int }{
		{1, 1, 624}, {1, 2, 720}, {1, 8, 1296}, {2, 1, 864}, {3, 2, 1232}, {16, 1, 7584}, {16, 8, 8256},
	} {
		if got := book.Bound(api.Config{N: x.n, Q: x.q, P: 1}); got != x.want {
			t.Errorf("P17.1: Bound of N %d, Q %d: %d, want %d", x.n, x.q, got, x.want)
		}
	}
	for n := 1; n <= 16; n++ {
		for q := 1; q <= 8; q++ {
			want := 16*n*n + 192*n + 96*q + 320
			for _, c := range []api.Config{{N: n, Q: q, P: 1}, {N: n, Q: q, R: 8, P: 16, K: mostAmount}, {N: n, Q: q, R: 2, P: 3, K: 7, C: mostAmount / 17}} {
				if got := book.Bound(c); got != want {
					t.Errorf("P17.1: Bound(%+v): %d, want %d", c, got, want)
				}
			}
		}
	}
	for _, c := range wrongConfigs() {
		if got := book.Bound(c); got != 0 {
			t.Errorf("P17.1: Bound(%+v): %d, want 0", c, got)
		}
	}
}

// written are books that may be one's, by config(1), config(2) or config(3), with all their bytes.
var written = []struct {
	n, who int
	k      api.Book
	bytes  string
}{
	{
		1, 0, api.Book{Rows: []api.Row{of(0, 0, 0)}, Notes: []api.Note{{}}},
		"\x00" + "\x00\x00\x00" + "\x00" + "\x00" + "\x00" + "\x00\x00\x00\x00\x00\x00\x00" + "\x00\x00",
	},
	{
		1, 0, api.Book{
			Clock: 300, Rows: []api.Row{of(5, 6, 0)}, Line: []api.Request{ask(7, 0, 128)}, Outs: []api.Outcome{end(9, 0, api.Lacking), end(8, 0, api.OK)}, Asks: 2, Notes: []api.Note{{}},
			Audit: api.Audit{Look: api.Look{Try: 129, Phase: 2}, Told: []bool{false}, Use: []int64{3}, Inc: []int64{4}, Moved: true},
		},
		"\xAC\x02" + "\x05\x06\x00" + "\x01\x07\x80\x01" + "\x02\x09\x07\x08\x00" + "\x02" + "\x00\x00\x00\x00\x00\x00\x00" + "\x81\x01\x02" + "\x00\x03\x04" + "\x01",
	},
	{
		2, 1, api.Book{
			Clock: mostTime, Rows: []api.Row{of(1, 2, 0, 3), of(127, 128, 300, 0)}, Line: []api.Request{ask(7, 1, 8), ask(9, 1, mostAmount), ask(mostTime, 1, 10)}, Asks: 3,
			Notes: []api.Note{{Clock: 11, Head: ask(12, 0, 13), Asks: 1, Look: api.Look{Try: 14, Phase: 1}}, {}},
		},
		"\x80\x80\x80\x80\x80\x80\x80\x02" + "\x01\x02\x00\x03" + "\x7F\x80\x01\xAC\x02\x00" + "\x03\x07\x08\x09\x80\x80\x80\x80\x80\x20\x80\x80\x80\x80\x80\x80\x80\x02\x0A" + "\x00" + "\x03" + "\x0B\x0C\x00\x0D\x01\x0E\x01" + "\x00\x00\x00\x00\x00\x00\x00" + "\x00\x00",
	},
	{
		2, 0, api.Book{
			Clock: 4, Rows: []api.Row{of(0, 0, 0, 0), of(0, 0, 0, 0)}, Outs: []api.Outcome{end(4, 0, api.OK), end(1, 0, api.Lacking), end(2, 0, api.OK), end(2, 0, api.OK)},
			Notes: []api.Note{{}, {Clock: mostTime, Head: ask(128, 1, mostAmount), Asks: 3, Look: api.Look{Try: mostTime, Phase: 2}}},
		},
		"\x04" + "\x00\x00\x00\x00" + "\x00\x00\x00\x00" + "\x00" + "\x04\x04\x00\x01\x07\x02\x00\x02\x00" + "\x00" + "\x00\x00\x00\x00\x00\x00\x00" + "\x80\x80\x80\x80\x80\x80\x80\x02\x80\x01\x01\x80\x80\x80\x80\x80\x20\x03\x80\x80\x80\x80\x80\x80\x80\x02\x02" + "\x00\x00",
	},
	{
		3, 1, api.Book{
			Clock: 99, Rows: []api.Row{of(1, 2, 0, 3, 4), of(5, 6, 7, 0, 8), of(9, 10, 11, 12, 0)}, Line: []api.Request{ask(13, 1, 14)}, Outs: []api.Outcome{end(15, 1, api.OK)}, Asks: 1,
			Notes: []api.Note{{Clock: 16, Head: ask(17, 0, 18), Asks: 2, Look: api.Look{Try: 19, Phase: 1}}, {}, {Clock: 20, Head: ask(21, 2, 22), Asks: 3, Look: api.Look{Try: 23, Phase: 2}}},
			Audit: api.Audit{Look: api.Look{Try: 24, Phase: 1}, Told: []bool{true, false, false}, Use: []int64{25, 26, 27}, Inc: []int64{28, 29, 30}},
		},
		"\x63" + "\x01\x02\x00\x03\x04" + "\x05\x06\x07\x00\x08" + "\x09\x0A\x0B\x0C\x00" + "\x01\x0D\x0E" + "\x01\x0F\x00" + "\x01" + "\x10\x11\x00\x12\x02\x13\x01" + "\x00\x00\x00\x00\x00\x00\x00" + "\x14\x15\x02\x16\x03\x17\x02" + "\x18\x01" + "\x01\x19\x1C" + "\x00\x1A\x1D" + "\x00\x1B\x1E" + "\x00",
	},
}

// TestWritten: P17.2, books whose bytes are written out, put and taken.
func TestWritten(t *testing.T) {
	for _, x := range written {
		holdPut(t, x.k, []byte(x.bytes))
		hold(t, "P17.2", config(x.n), x.who, []byte(x.bytes), x.k)
		holdMay(t, config(x.n), x.who, x.k, true)
	}
}

// TestWhos: P17.1, a config and who, from below 0 to N and beyond, whether they may be; a book of each replica, for each N that may be, is no other one's.
func TestWhos(t *testing.T) {
	for n := 1; n <= 16; n++ {
		c := config(n)
		for who := range n {
			for as := range n {
				holdMay(t, c, as, bare(c), true)
				holdMay(t, c, as, full(c, who), as == who)
				holdMay(t, c, as, waiting(c, who), as == who)
			}
		}
		for _, who := range farWhos(n) {
			if who >= 0 && who < n {
				continue
			}
			holdMay(t, c, who, bare(c), false)
			holdMay(t, c, who, waiting(c, who), false)
			holdMay(t, c, who, full(c, n-1), false)
			holdNone(t, c, who, words(full(c, 0)))
		}
	}
	for _, c := range wrongConfigs() {
		for _, who := range []int{-1, 0, 1, 2} {
			for _, k := range []api.Book{{}, bare(config(2)), waiting(config(2), who), full(config(2), 1)} {
				holdMay(t, c, who, k, false)
			}
			for size := range 60 {
				holdNone(t, c, who, make([]byte, size))
			}
		}
	}
}

// TestClock: P17.1, a Clock below 0, 0, MaxTime, one above it, and others; where somebody waits, or has an outcome, one that is later than their stamps or as late.
func TestClock(t *testing.T) {
	for _, n := range someN {
		c, who := config(n), n-1
		for _, clock := range []int64{0, 1, 2, 127, 128, mostTime - 1, mostTime} {
			holdMay(t, c, who, with(bare(c), func(k *api.Book) { k.Clock = clock }), true)
			holdMay(t, c, who, with(waiting(c, who), func(k *api.Book) { k.Clock = clock }), clock >= 9)
		}
		for _, clock := range badTimes {
			for _, k := range []api.Book{bare(c), waiting(c, who), full(c, who)} {
				holdMay(t, c, who, with(k, func(k *api.Book) { k.Clock = clock }), false)
			}
		}
		// The last one that waits has the time 702, the last outcome 603.
		for _, clock := range []int64{0, 599, 602, 603, 604, 699, 700, 701, 702, 703, mostTime} {
			holdMay(t, c, who, with(full(c, who), func(k *api.Book) { k.Clock = clock }), clock >= 702)
			alone := func(k *api.Book) { k.Clock, k.Line, k.Asks, k.Audit = clock, nil, 0, api.Audit{} }
			holdMay(t, c, who, with(full(c, who), alone), clock >= 603)
		}
	}
}

// TestRows: P17.1, rows that are right, and such as aren't, of one replica, and of three.
func TestRows(t *testing.T) {
	type change = func(l []api.Row)
	try := func(c api.Config, may bool, changes ...change) {
		for _, change := range changes {
			for who := range c.N {
				for _, k := range []api.Book{bare(c), waiting(c, who)} {
					holdMay(t, c, who, with(k, func(k *api.Book) { change(k.Rows) }), may)
				}
			}
		}
	}
	one := api.Config{N: 1, Q: 1, R: 1, P: 1, K: 7, C: 5}
	try(one, true, func(l []api.Row) { l[0].Inc, l[0].Use = 5, 12 }, func(l []api.Row) { l[0].Use = 7 })
	try(one, false, func(l []api.Row) { l[0].Use = 8 }, func(l []api.Row) { l[0].Inc = 6 }, func(l []api.Row) { l[0].Out[0] = 1 }, func(l []api.Row) { l[0].Out = nil }, func(l []api.Row) { l[0].Inc, l[0].Use = -1, -1 })
	three := api.Config{N: 3, Q: 1, R: 1, P: 1, K: 7, C: 5} // shares 3, 2, 2
	try(three, true,
		func(l []api.Row) {},
		func(l []api.Row) { l[0].Inc = 5 },
		func(l []api.Row) { l[2].Use = 2 },
		func(l []api.Row) { l[0].Inc, l[0].Use = 5, 8 },
		func(l []api.Row) { l[0].Out[1] = 3 },
		func(l []api.Row) { l[0].Out[1], l[1].Out[2] = 3, 5 },
		func(l []api.Row) { l[1].Out[0], l[0].Out[1] = mostTime, mostTime },
	)
	try(three, false,
		func(l []api.Row) { l[0].Inc = 6 },
		func(l []api.Row) { l[0].Inc = -1 },
		func(l []api.Row) { l[1].Inc = mostAmount + 1 },
		func(l []api.Row) { l[2].Use = 3 },
		func(l []api.Row) { l[2].Use = -1 },
		func(l []api.Row) { l[1].Out[1] = 1 },
		func(l []api.Row) { l[0].Out[1] = 4 },
		func(l []api.Row) { l[0].Out[1] = -1 },
		func(l []api.Row) { l[0].Out[1], l[1].Out[2] = 3, 6 },
		func(l []api.Row) { l[1].Out[0], l[0].Out[1] = mostTime+1, mostTime+1 },
		func(l []api.Row) { l[0].Use = math.MaxInt64 },
		func(l []api.Row) { l[0].Use = math.MinInt64 },
		func(l []api.Row) { l[0].Out = nil },
		func(l []api.Row) { l[1].Out = make([]int64, 2) },
		func(l []api.Row) { l[2].Out = make([]int64, 4) },
	)
	for have := range 20 {
		for _, n := range someN {
			rows := make([]api.Row, have)
			for i := range rows {
				rows[i].Out = make([]int64, n)
			}
			holdMay(t, config(n), 0, with(bare(config(n)), func(k *api.Book) { k.Rows = rows }), have == n)
		}
	}
}

// TestLine: P17.1, lines of none to Q and more, with stamps and amounts that may be, and such as may not; rising ones, and such as aren't; with stamps as late as the Clock, and later.
func TestLine(t *testing.T) {
	for _, n := range someN {
		for _, q := range []int{1, 2, 8} {
			c, who := config(n), n-1
			c.Q = q
			for have := range 12 {
				k := bare(c)
				k.Clock = 100
				for i := range have {
					k.Line = append(k.Line, ask(int64(100-have+1+i), who, int64(1+i)))
				}
				holdMay(t, c, who, k, have <= q)
				if have == 0 {
					continue
				}
				holdMay(t, c, who, with(k, func(k *api.Book) { k.Clock = 99 }), false)
				holdMay(t, c, who, with(k, func(k *api.Book) { k.Clock = 101 }), have <= q)
				holdMay(t, c, who, with(k, func(k *api.Book) { k.Clock, k.Line[have-1].Id.Time = mostTime, mostTime }), have <= q)
				holdMay(t, c, who, with(k, func(k *api.Book) { k.Clock, k.Line[have-1].Id.Time = mostTime, mostTime+1 }), false)
				for i := range have {
					if have < 4 || i == 0 || i == have-1 {
						holdLine(t, c, who, k, i, have <= q)
					}
				}
			}
		}
	}
}

// holdLine: a line, of which that request is changed in one thing.
func holdLine(t *testing.T, c api.Config, who int, k api.Book, i int, may bool) {
	t.Helper()
	try := func(may bool, change func(r *api.Request)) {
		t.Helper()
		holdMay(t, c, who, with(k, func(k *api.Book) { change(&k.Line[i]) }), may)
	}
	for _, amount := range []int64{1, 2, 127, 128, mostAmount - 1, mostAmount} {
		try(may, func(r *api.Request) { r.Amount = amount })
	}
	for _, amount := range append([]int64{0}, badAmounts...) {
		try(false, func(r *api.Request) { r.Amount = amount })
	}
	for _, time := range append([]int64{0, 101}, badTimes...) {
		try(false, func(r *api.Request) { r.Id.Time = time })
	}
	for _, other := range append(farWhos(c.N), who-1, 0) {
		try(may && other == who, func(r *api.Request) { r.Id.Who = other })
	}
	if i > 0 {
		try(false, func(r *api.Request) { r.Id.Time-- })
		try(false, func(r *api.Request) { r.Id.Time = 1 })
	} else if len(k.Line) > 0 {
		try(may, func(r *api.Request) { r.Id.Time = 1 })
	}
}

// TestOuts: P17.1, Outs of none to Q and two more, and beyond, whether somebody waits or not; with stamps that may be, may not, are another one's, as late as the Clock, and later; in any order, and twice; with each code.
func TestOuts(t *testing.T) {
	for _, n := range someN {
		for _, q := range []int{1, 2, 8} {
			c, who := config(n), n-1
			c.Q = q
			for have := range 14 {
				for _, k := range []api.Book{bare(c), waiting(c, who)} {
					k.Clock, k.Outs = 100, nil
					for i := range have {
						k.Outs = append(k.Outs, end(int64(100-i), who, []api.Code{api.OK, api.Lacking}[i%2]))
					}
					holdMay(t, c, who, k, have <= q+1)
					holdMay(t, c, who, with(k, func(k *api.Book) { slices.Reverse(k.Outs) }), have <= q+1)
					if have > 0 && (have < 3 || have == q+1) {
						holdOut(t, c, who, k, 0)
						holdOut(t, c, who, k, have-1)
					}
				}
			}
		}
	}
}

// holdOut: Outs that may be, of which that one is changed in one thing.
func holdOut(t *testing.T, c api.Config, who int, k api.Book, i int) {
	t.Helper()
	try := func(may bool, change func(o *api.Outcome)) {
		t.Helper()
		holdMay(t, c, who, with(k, func(k *api.Book) { change(&k.Outs[i]) }), may)
	}
	for _, time := range []int64{1, 2, 99, 100} {
		try(true, func(o *api.Outcome) { o.Id.Time = time })
	}
	for _, time := range append([]int64{0, 101, 102, mostTime}, badTimes...) {
		try(false, func(o *api.Outcome) { o.Id.Time = time })
	}
	for _, other := range append(farWhos(c.N), who, who-1, 0) {
		try(other == who, func(o *api.Outcome) { o.Id.Who = other })
	}
	for code := api.Code(-2); code < 14; code++ {
		try(code == api.OK || code == api.Lacking, func(o *api.Outcome) { o.Code = code })
	}
	for _, code := range []api.Code{1 << 32, 1<<32 + 7, math.MinInt, math.MinInt + 7, math.MaxInt} {
		try(false, func(o *api.Outcome) { o.Code = code })
	}
}

// TestAsks: P17.1, Asks from below 0 to above R, for each R that may be; where nobody waits, only 0.
func TestAsks(t *testing.T) {
	for _, n := range someN {
		for r := range 9 {
			c, who := config(n), n/2
			c.R = r
			for _, asks := range []int{-9, -1, 0, 1, 2, 3, 4, 5, 6, 7, 8, 9, 127, 128, 1 << 32, math.MinInt, math.MaxInt} {
				try := func(k api.Book, may bool) {
					holdMay(t, c, who, with(k, func(k *api.Book) { k.Asks = asks }), may)
				}
				try(bare(c), asks == 0)
				try(with(waiting(c, who), func(k *api.Book) { k.Line = nil }), asks == 0)
				try(waiting(c, who), 0 <= asks && asks <= r)
				if r > 0 {
					try(full(c, who), 0 <= asks && asks <= r)
				}
			}
		}
	}
}

// TestNobodyWaits: P17.1, where nobody waits, Asks is 0, and the Audit none: each of these alone, with Outs and notes, and without; where somebody waits, both may be more.
func TestNobodyWaits(t *testing.T) {
	for _, n := range someN {
		c := config(n)
		for who := range n {
			for _, k := range []api.Book{bare(c), waiting(c, who), full(c, who)} {
				for asks := range 4 {
					for phase := range 3 {
						for wait := range 2 {
							k := copied(k)
							k.Clock, k.Asks, k.Audit, k.Line = 2000, asks, api.Audit{}, nil
							if phase > 0 {
								k.Audit = run(c, who, phase)
							}
							if wait > 0 {
								k.Line = []api.Request{ask(1500, who, 5)}
							}
							holdMay(t, c, who, k, wait > 0 || asks == 0 && phase == 0)
						}
					}
				}
			}
		}
	}
}

// TestNotes: P17.1, notes, too few and too many of them, and of each replica such as may be, and such as may not; the own one is none.
func TestNotes(t *testing.T) {
	for _, n := range someN {
		c, who := config(n), n/2
		for _, k := range []api.Book{bare(c), waiting(c, who), full(c, who)} {
			for have := range 20 {
				holdMay(t, c, who, with(k, func(k *api.Book) { k.Notes = make([]api.Note, have) }), have == n)
			}
			holdMay(t, c, who, with(k, func(k *api.Book) { k.Notes = append(k.Notes, api.Note{Clock: 1}) }), false)
			holdMay(t, c, who, with(k, func(k *api.Book) { k.Notes = k.Notes[1:] }), false)
			for other := range n {
				may := other != who
				try := func(may bool, note api.Note) {
					holdMay(t, c, who, with(k, func(k *api.Book) { k.Notes[other] = note }), may)
				}
				try(true, api.Note{})
				for _, note := range []api.Note{
					{Clock: 1}, {Clock: mostTime}, {Head: ask(1, other, 1)}, {Head: ask(mostTime, other, mostAmount)}, {Asks: 1}, {Asks: 3},
					{Look: api.Look{Try: 1, Phase: 1}}, {Look: api.Look{Try: mostTime, Phase: 2}}, {Clock: 1, Head: ask(9, other, 9), Asks: 3, Look: api.Look{Try: 5, Phase: 2}},
				} {
					try(may, note)
				}
				for _, note := range []api.Note{
					{Asks: -1}, {Asks: 4}, {Asks: math.MinInt}, {Asks: math.MaxInt}, {Head: ask(1, (other+1)%(n+1), 1)}, {Head: ask(1, -1, 1)}, {Head: ask(0, other, 1)}, {Head: ask(1, other, 0)}, {Head: ask(0, -1, 0)},
					{Look: api.Look{Try: 1}}, {Look: api.Look{Phase: 1}}, {Look: api.Look{Try: 1, Phase: 3}}, {Look: api.Look{Try: 1, Phase: -1}},
				} {
					try(false, note)
				}
				for _, time := range badTimes {
					try(false, api.Note{Clock: time})
					try(false, api.Note{Head: ask(time, other, 1)})
					try(false, api.Note{Look: api.Look{Try: time, Phase: 1}})
				}
				for _, amount := range badAmounts {
					try(false, api.Note{Head: ask(1, other, amount)})
				}
			}
		}
	}
}

// TestAudit: P17.1, where somebody waits, an audit that is none, one that runs, and such as may not be.
func TestAudit(t *testing.T) {
	for _, n := range someN {
		c, who := config(n), n/2
		for _, k := range []api.Book{waiting(c, who), full(c, who)} {
			try := func(may bool, a api.Audit) {
				holdMay(t, c, who, with(k, func(k *api.Book) { k.Audit = a }), may)
			}
			try(true, api.Audit{})
			try(true, api.Audit{Told: []bool{}, Use: []int64{}, Inc: make([]int64, 0, 9)})
			for _, a := range []api.Audit{{Moved: true}, {Look: api.Look{Try: 1, Phase: 1}}, {Look: api.Look{Phase: 1}}, {Told: make([]bool, n)}, {Use: make([]int64, n)}, {Inc: make([]int64, n)}, {Told: make([]bool, n), Use: make([]int64, n), Inc: make([]int64, n)}} {
				try(false, a)
			}
			for phase := -1; phase < 5; phase++ {
				try(phase == 1 || phase == 2, run(c, who, phase))
			}
			for _, time := range []int64{1, 127, 128, mostTime} {
				a := run(c, who, 1)
				a.Look.Try, a.Moved = time, true
				try(true, a)
			}
			for _, time := range append([]int64{0}, badTimes...) {
				a := run(c, who, 2)
				a.Look.Try = time
				try(false, a)
			}
			for of := range n {
				a := run(c, who, 1)
				a.Told[of] = true
				try(of != who, a)
				for _, amount := range append([]int64{0, 1, mostAmount}, badAmounts...) {
					may := 0 <= amount && amount <= mostAmount
					a := run(c, who, 2)
					a.Use[of] = amount
					try(may, a)
					a = run(c, who, 1)
					a.Inc[of] = amount
					try(may, a)
				}
			}
		}
	}
}

// TestAuditLists: P17.1 and P17.2, an audit with more and fewer elements in Told, Use and Inc than there are replicas, and than one another, whether something moved or not, with a look and without: as many are put as Told has, what is lacking as 0.
func TestAuditLists(t *testing.T) {
	for _, n := range []int{1, 2, 3} {
		c := config(n)
		sizes := n + 3
		for code := range sizes * sizes * sizes * 4 {
			told, use, inc := code%sizes, code/sizes%sizes, code/sizes/sizes%sizes
			a := api.Audit{Told: make([]bool, told), Use: slices.Repeat([]int64{300}, use), Inc: slices.Repeat([]int64{7}, inc), Moved: code/sizes/sizes/sizes%2 == 1}
			want := "\x00\x00"
			if code/sizes/sizes/sizes/2 == 1 {
				a.Look = api.Look{Try: 128, Phase: 2}
				want = "\x80\x01\x02"
			}
			if want != "\x00\x00" || told+use+inc > 0 || a.Moved {
				for of := range told {
					a.Told[of] = of > 0
					want += map[bool]string{true: "\x01", false: "\x00"}[of > 0] + map[bool]string{true: "\xAC\x02", false: "\x00"}[of < use] + map[bool]string{true: "\x07", false: "\x00"}[of < inc]
				}
				want += map[bool]string{true: "\x01", false: "\x00"}[a.Moved]
			}
			k := waiting(c, 0)
			ahead := words(k)
			k.Audit = a
			holdPut(t, k, append(ahead[:len(ahead)-2], want...))
			none := want == "\x00\x00"
			runs := a.Look.Try > 0 && told == n && use == n && inc == n
			holdMay(t, c, 0, k, none || runs)
		}
	}
}

// TestAuditsWritten: P17.2, the bytes of audits with lists of any sizes, written out.
func TestAuditsWritten(t *testing.T) {
	look := api.Look{Try: 5, Phase: 1}
	for _, x := range []struct {
		a     api.Audit
		bytes string
	}{
		{api.Audit{}, "\x00\x00"},
		{api.Audit{Told: []bool{}, Use: []int64{}, Inc: []int64{}}, "\x00\x00"},
		{api.Audit{Moved: true}, "\x00\x00\x01"},
		{api.Audit{Look: look}, "\x05\x01\x00"},
		{api.Audit{Look: api.Look{Try: 5}}, "\x05\x00\x00"},
		{api.Audit{Look: api.Look{Phase: 5}, Moved: true}, "\x00\x05\x01"},
		{api.Audit{Use: []int64{4}}, "\x00\x00\x00"},
		{api.Audit{Inc: []int64{0}}, "\x00\x00\x00"},
		{api.Audit{Told: []bool{false}}, "\x00\x00\x00\x00\x00\x00"},
		{api.Audit{Told: []bool{true}, Use: []int64{2}}, "\x00\x00\x01\x02\x00\x00"},
		{api.Audit{Told: []bool{true}, Inc: []int64{3}}, "\x00\x00\x01\x00\x03\x00"},
		{api.Audit{Look: look, Use: []int64{2, 3}, Inc: []int64{4}}, "\x05\x01\x00"},
		{api.Audit{Look: look, Told: []bool{true, false}, Use: []int64{2, 3, 4}, Inc: []int64{5}, Moved: true}, "\x05\x01\x01\x02\x05\x00\x03\x00\x01"},
		{api.Audit{Look: look, Told: []bool{false, true}, Use: []int64{2}, Inc: []int64{-1, 300, 7}}, "\x05\x01\x00\x02\xFF\xFF\xFF\xFF\xFF\xFF\xFF\xFF\xFF\x01\x01\x00\xAC\x02\x00"},
		{api.Audit{Look: look, Told: slices.Repeat([]bool{true}, 100), Use: []int64{128}}, "\x05\x01\x01\x80\x01\x00" + strings.Repeat("\x01\x00\x00", 99) + "\x00"},
	} {
		holdPut(t, api.Book{Audit: x.a}, []byte("\x00\x00\x00\x00"+x.bytes))
		holdPut(t, api.Book{Clock: 9, Asks: 8, Notes: []api.Note{{Clock: 7}}, Audit: x.a}, []byte("\x09\x00\x00\x08\x07\x00\x00\x00\x00\x00\x00"+x.bytes))
	}
}

// TestPutLists: P17.2, the bytes of books that may not be by any config: without rows, without Outs in them, without notes, with any number of each, and of requests and outcomes, whose ever they are.
func TestPutLists(t *testing.T) {
	for _, rows := range []struct {
		l     []api.Row
		bytes string
	}{
		{nil, ""},
		{[]api.Row{}, ""},
		{[]api.Row{{}}, "\x00\x00"},
		{[]api.Row{of(1, 2), {Inc: 3, Out: []int64{}}, of(4, 5)}, "\x01\x02\x03\x00\x04\x05"},
		{[]api.Row{of(1, 2, 3, 4, 5), of(6, 7, 8)}, "\x01\x02\x03\x04\x05\x06\x07\x08"},
		{slices.Repeat([]api.Row{of(1, 2, slices.Repeat([]int64{3}, 40)...)}, 30), strings.Repeat("\x01\x02"+strings.Repeat("\x03", 40), 30)},
	} {
		for _, waits := range []struct {
			l     []api.Request
			bytes string
		}{
			{nil, "\x00"},
			{[]api.Request{}, "\x00"},
			{[]api.Request{{}}, "\x01\x00\x00"},
			{[]api.Request{ask(5, 77, 6), ask(4, -1, 300)}, "\x02\x05\x06\x04\xAC\x02"},
			{slices.Repeat([]api.Request{ask(1, 2, 3)}, 128), "\x80\x01" + strings.Repeat("\x01\x03", 128)},
		} {
			for _, outs := range []struct {
				l     []api.Outcome
				bytes string
			}{
				{nil, "\x00"},
				{[]api.Outcome{}, "\x00"},
				{[]api.Outcome{{}}, "\x01\x00\x00"},
				{[]api.Outcome{end(5, 77, 6), end(4, -1, 300)}, "\x02\x05\x06\x04\xAC\x02"},
				{slices.Repeat([]api.Outcome{end(1, 2, 3)}, 300), "\xAC\x02" + strings.Repeat("\x01\x03", 300)},
			} {
				for _, notes := range []struct {
					l     []api.Note
					bytes string
				}{
					{nil, ""},
					{[]api.Note{{}}, "\x00\x00\x00\x00\x00\x00\x00"},
					{slices.Repeat([]api.Note{{Clock: 1, Head: ask(2, 3, 4), Asks: 5, Look: api.Look{Try: 6, Phase: 7}}}, 20), strings.Repeat("\x01\x02\x03\x04\x05\x06\x07", 20)},
				} {
					k := api.Book{Clock: 300, Rows: rows.l, Line: waits.l, Outs: outs.l, Asks: 129, Notes: notes.l}
					want := []byte("\xAC\x02" + rows.bytes + waits.bytes + outs.bytes + "\x81\x01" + notes.bytes + "\x00\x00")
					holdPut(t, k, want)
					for n := range 4 {
						holdWords(t, config(n), 0, want)
					}
				}
			}
		}
	}
}

// TestEachNumber: P17.1 and P17.2, each number of a book at its edges, below 0, 0, 127, 128, the greatest and the least of 64 bits among them: its bytes stand in their place, and none but what may be is taken.
func TestEachNumber(t *testing.T) {
	for _, n := range someN {
		c, who := config(n), n/2
		some := map[bool]int{}
		list := samples(c, who)
		if n == 16 {
			list = list[3:] // the one with the most numbers is enough
		}
		for _, k := range list {
			all := places(&k)
			for i, p := range all {
				if p.set == nil {
					continue
				}
				for _, x := range edges {
					changed := copied(k)
					places(&changed)[i].set(x.v)
					want := slices.Concat(painted(values(all[:i])...), []byte(x.bytes), painted(values(all[i+1:])...))
					if isNone(k.Audit) && !isNone(changed.Audit) {
						want = append(want, 0) // whether something moved
					}
					holdPut(t, changed, want)
					may := holdWords(t, c, who, want)
					some[may]++
					if got := book.May(c, who, changed); got != may {
						t.Errorf("P17.1: May(%+v, %d, %+v): %t, want %t", c, who, changed, got, may)
					}
				}
			}
		}
		if some[true] < 100 || some[false] < 100 {
			t.Errorf("too few of a kind were tried: %v", some)
		}
	}
}

// TestNoBytes: P17.2, no bytes are no book's, by no config; nor are a few.
func TestNoBytes(t *testing.T) {
	for n := range 18 {
		for who := -1; who <= n; who++ {
			for _, b := range [][]byte{nil, {}, make([]byte, 0, 9), {0}, {1, 0}, {0, 1, 1}, {128}, {128, 0}} {
				holdNone(t, config(n), who, b)
			}
		}
	}
}

// samples are books of who that may be: the least one, one that waits, one that waits and looks, and one of which all is told.
func samples(c api.Config, who int) []api.Book {
	looks := waiting(c, who)
	looks.Audit = run(c, who, 2)
	return []api.Book{bare(c), waiting(c, who), looks, full(c, who)}
}

// TestCut: P17.2, the bytes of a book that may be, cut at each place, begun at each place but the first, and with one more byte behind them.
func TestCut(t *testing.T) {
	for _, n := range someN {
		c, who := config(n), n-1
		for _, k := range samples(c, who) {
			b := words(k)
			hold(t, "P17.2", c, who, b, k)
			for at := range b {
				holdNone(t, c, who, b[:at])
				holdNone(t, c, who, slices.Clip(b[:at]))
				if at > 0 {
					holdWords(t, c, who, b[at:])
				}
			}
			for more := range 256 {
				holdNone(t, c, who, append(b, byte(more)))
			}
			holdNone(t, c, who, append(b, b...))
			holdNone(t, c, who, append(b, make([]byte, 1000)...))
		}
	}
}

// TestTurned: P17.2, with one byte turned to any other one, the bytes are those of another book that may be, or of none.
func TestTurned(t *testing.T) {
	for _, n := range someN {
		c, who := config(n), n-1
		some := map[bool]int{}
		for _, k := range samples(c, who) {
			b := words(k)
			for at, was := range b {
				for turn := 1; turn < 256; turn++ {
					// Of many replicas one bit at a time is enough.
					if n == 16 && turn&(turn-1) != 0 {
						continue
					}
					b[at] = was ^ byte(turn)
					some[holdWords(t, c, who, b)]++
				}
				b[at] = was
			}
		}
		if some[true] < 100 || some[false] < 100 {
			t.Errorf("too few of a kind were tried: %v", some)
		}
	}
}

// TestLonger: P17.2, a number put in more bytes than it needs, or bytes of none in its place, at each place; and one that counts as below 0, or is above all that may be.
func TestLonger(t *testing.T) {
	for _, n := range someN {
		c, who := config(n), n-1
		for _, k := range samples(c, who) {
			b := words(k)
			at := 0
			for _, v := range numbers(k) {
				span := [2]int{at, at + len(digits(v))}
				long := slices.Clone(b[span[0]:span[1]])
				long[len(long)-1] |= 128
				for more := range 10 {
					holdNone(t, c, who, swapped(b, span, slices.Concat(long, bytes.Repeat([]byte{128}, more), []byte{0})))
				}
				for _, s := range noNumber {
					holdNone(t, c, who, swapped(b, span, []byte(s)))
				}
				for _, v := range []int64{-1, -2, -128, -mostTime, math.MinInt64 + 1, math.MinInt64, math.MaxInt64, mostTime + 1} {
					holdNone(t, c, who, swapped(b, span, digits(v)))
				}
				at = span[1]
			}
		}
	}
}

// TestCounts: P17.2, how many wait, and how many Outs there are: other numbers than that in its place, also above all that the bytes could hold, above Q, above all that 63 bits hold, and such as would come out as the right one in fewer bits.
func TestCounts(t *testing.T) {
	for _, n := range someN {
		c, who := config(n), n-1
		for _, k := range samples(c, who) {
			b := words(k)
			for name, right := range map[string]int{"line": len(k.Line), "outs": len(k.Outs)} {
				span := find(k, name)[0]
				hold(t, "P17.2", c, who, swapped(b, span, digits(int64(right))), k)
				for count := range int64(300) {
					holdWords(t, c, who, swapped(b, span, digits(count)))
				}
				for _, far := range []uint64{1000, 1 << 20, 1 << 31, 1 << 32, 1 << 40, 1 << 50, 1<<61 - 1, 1 << 61, 1 << 62, 1<<63 - 1, 1 << 63, 1<<64 - 9} {
					for add := range uint64(9) {
						other := swapped(b, span, digits(int64(far+add)))
						holdNone(t, c, who, other)
						holdNone(t, c, who, append(other, make([]byte, 400)...))
					}
				}
			}
		}
	}
}

// TestManyWait: P17.2, as many requests, or Outs, as the bytes hold, but more than may be: none.
func TestManyWait(t *testing.T) {
	c := config(2)
	for _, have := range []int{4, 5, 127, 128, 1 << 16} {
		k := waiting(c, 1)
		k.Clock = mostTime
		k.Line, k.Outs = nil, nil
		for i := range have {
			k.Line = append(k.Line, ask(int64(1+i), 1, 1))
		}
		holdMay(t, c, 1, k, false)
		holdNone(t, c, 1, words(k))
		k.Line, k.Outs = nil, slices.Repeat([]api.Outcome{end(1, 1, api.OK)}, have)
		holdMay(t, c, 1, k, have == 4)
	}
}

// TestFlags: P17.2, a 0 or 1 that is another number: whether one told, and whether something moved; the right ones in each place.
func TestFlags(t *testing.T) {
	for _, n := range someN {
		c, who := config(n), n/2
		for _, k := range samples(c, who)[2:] {
			b := words(k)
			spans := find(k, "flag")
			if len(spans) != n+1 {
				t.Fatalf("the test's own flags: %v", spans)
			}
			for of, span := range spans {
				for _, v := range []int64{2, 3, 7, 127, 128, 129, 256, 257, 1 << 32, 1<<32 + 1, math.MaxInt64, math.MinInt64, math.MinInt64 + 1, -1, -2} {
					holdNone(t, c, who, swapped(b, span, digits(v)))
				}
				want := with(k, func(k *api.Book) {
					if of < n {
						k.Audit.Told[of] = true
					} else {
						k.Audit.Moved = true
					}
				})
				if of == who {
					holdNone(t, c, who, swapped(b, span, []byte{1}))
				} else {
					hold(t, "P17.2", c, who, swapped(b, span, []byte{1}), want)
				}
				hold(t, "P17.2", c, who, swapped(b, span, []byte{0}), with(want, func(k *api.Book) {
					if of < n {
						k.Audit.Told[of] = false
					} else {
						k.Audit.Moved = false
					}
				}))
			}
		}
	}
}

// TestNoAudit: P17.2, behind an audit that is none nothing stands, not even what would stand behind one that runs.
func TestNoAudit(t *testing.T) {
	for _, n := range someN {
		c := config(n)
		k := waiting(c, 0)
		hold(t, "P17.2", c, 0, words(k), k)
		for behind := 1; behind < 60; behind++ {
			holdNone(t, c, 0, append(words(k), make([]byte, behind)...))
		}
		k.Audit = run(c, 0, 1)
		k.Audit.Look = api.Look{}
		holdMay(t, c, 0, k, false)
		holdNone(t, c, 0, book.Put(k))
	}
}

// TestOtherReplica: P17.2, a book's bytes don't tell whose the requests and outcomes are: taken as another replica's, they are that one's, but where the notes or the audit tell who it is.
func TestOtherReplica(t *testing.T) {
	for n := 2; n <= 16; n++ {
		c := config(n)
		for who := range n {
			for as := range n {
				for _, k := range samples(c, who) {
					may := holdWords(t, c, as, words(k))
					if as == who && !may {
						t.Errorf("P17.2: a book of %d of %d isn't taken: %+v", who, n, k)
					}
				}
				hold(t, "P17.2", c, as, words(waiting(c, who)), waiting(c, as))
				if as != who {
					holdNone(t, c, as, words(full(c, who)))
				}
				told := waiting(c, who)
				told.Audit = run(c, who, 1)
				clear(told.Audit.Told)
				told.Audit.Told[as] = as != who
				if as != who {
					hold(t, "P17.2", c, who, words(told), told)
					holdNone(t, c, as, words(told))
				}
			}
		}
	}
}

// TestOtherConfigs: P17.1 and P17.2, one book that may be by some configs, and may not be by others.
func TestOtherConfigs(t *testing.T) {
	k := api.Book{Clock: 9, Rows: []api.Row{of(5, 0, 0, 2), of(0, 5, 0, 0)}, Line: []api.Request{ask(3, 1, 4), ask(4, 1, 4)}, Outs: []api.Outcome{end(1, 1, api.OK), end(2, 1, api.OK), end(5, 1, api.OK)}, Asks: 2, Notes: []api.Note{{Asks: 2}, {}}}
	for _, c := range []api.Config{
		{N: 2, Q: 2, R: 2, P: 1, K: 6, C: 5},
		{N: 2, Q: 8, R: 8, P: 16, K: 6, C: 5},
		{N: 2, Q: 2, R: 2, P: 1, K: 7, C: 5},
		{N: 2, Q: 2, R: 2, P: 1, K: 6, C: 6},
		{N: 2, Q: 2, R: 2, P: 1, K: mostAmount - 10, C: 5},
	} {
		holdMay(t, c, 1, k, true)
	}
	for _, c := range []api.Config{
		{N: 2, Q: 1, R: 2, P: 1, K: 6, C: 5}, // too many wait
		{N: 2, Q: 2, R: 1, P: 1, K: 6, C: 5}, // asked for too often
		{N: 2, Q: 2, R: 0, P: 1, K: 6, C: 5},
		{N: 2, Q: 2, R: 2, P: 1, K: 5, C: 5}, // rights below 0
		{N: 2, Q: 2, R: 2, P: 1, K: 6, C: 4}, // above C
		{N: 3, Q: 2, R: 2, P: 1, K: 9, C: 5},
		{N: 1, Q: 2, R: 2, P: 1, K: 9, C: 5},
		{N: 2, Q: 0, R: 2, P: 1, K: 6, C: 5}, // may not be
		{N: 2, Q: 2, R: 2, P: 0, K: 6, C: 5},
		{N: 2, Q: 2, R: 2, P: 1, K: mostAmount - 9, C: 5},
	} {
		holdMay(t, c, 1, k, false)
		holdNone(t, c, 1, words(k))
	}
	for n := 1; n <= 16; n++ {
		for _, k := range samples(config(n), 0) {
			b := words(k)
			for other := range 20 {
				if other != n {
					holdWords(t, config(other), 0, b)
				}
			}
			for _, far := range []int{-1, -n, 17, 1 << 20, 1 << 40, 1 << 62, math.MinInt, math.MaxInt} {
				holdNone(t, config(far), 0, b)
			}
		}
	}
}

// greatest is a book of who that may be, each number of which has as many bytes as it can; the config tells how much of everything there is.
func greatest(n, q, r, who int) (api.Config, api.Book) {
	part := int64(mostAmount / (2 * n)) // of 16 replicas 2^35, which takes 6 bytes still
	c := api.Config{N: n, Q: q, R: r, P: 16, K: int64(n) * part, C: part}
	k := api.Book{Clock: mostTime, Rows: rights.New(c), Asks: r, Notes: make([]api.Note, n)}
	k.Audit = api.Audit{Look: api.Look{Try: mostTime, Phase: 2}, Moved: true}
	for w := range n {
		k.Rows[w].Inc, k.Rows[w].Use = part, part
		for other := range n {
			if other != w {
				k.Rows[w].Out[other] = mostTime
			}
		}
		if w != who {
			k.Notes[w] = api.Note{Clock: mostTime, Head: ask(mostTime, w, mostAmount), Asks: r, Look: api.Look{Try: mostTime, Phase: 2}}
		}
		k.Audit.Told = append(k.Audit.Told, w != who)
		k.Audit.Use, k.Audit.Inc = append(k.Audit.Use, mostAmount), append(k.Audit.Inc, mostAmount)
	}
	for i := range q {
		k.Line = append(k.Line, ask(int64(mostTime-q+1+i), who, mostAmount))
	}
	k.Outs = slices.Repeat([]api.Outcome{end(mostTime, who, api.Lacking)}, q+1)
	return c, k
}

// mostBytes are as many as the bytes of a book can be: a time takes 8, an amount 6, what was moved 8, and any other number 1.
func mostBytes(n, q int) int {
	rows := n * (6 + 6 + 8*(n-1) + 1)
	notes := (n-1)*(8+8+1+6+1+8+1) + 7
	return 8 + rows + 1 + q*(8+6) + 1 + (q+1)*(8+1) + 1 + notes + 8 + 1 + n*(1+6+6) + 1
}

// holdFrames: two frames of the book's bytes have at most as many bytes as the bound.
func holdFrames(t *testing.T, c api.Config, k api.Book) {
	t.Helper()
	b := book.Put(k)
	two := frame.Put(frame.Put(nil, b), b)
	if bound := book.Bound(c); len(two) > bound || len(two) != 2*frame.Size(len(b)) {
		t.Errorf("P17.3: two frames of %+v have %d bytes, the bound of %+v is %d", k, len(two), c, bound)
	}
}

// TestGreatest: P17.3, two frames of the greatest book that may be have at most as many bytes as the bound, for each N and Q that may be; it is taken as it was put.
func TestGreatest(t *testing.T) {
	for n := 1; n <= 16; n++ {
		for q := 1; q <= 8; q++ {
			for _, r := range []int{0, 1, 8} {
				for _, who := range []int{0, n - 1} {
					c, k := greatest(n, q, r, who)
					holdMay(t, c, who, k, true)
					holdFrames(t, c, k)
					if got := len(book.Put(k)); got != mostBytes(n, q) {
						t.Errorf("P17.2: the greatest book of N %d, Q %d has %d bytes, want %d", n, q, got, mostBytes(n, q))
					}
				}
			}
		}
	}
}

// drawnNumber is one of few bits, of many, or an edge.
func drawnNumber(draw *rand.Rand) int64 {
	if draw.Intn(2) == 0 {
		return edges[draw.Intn(len(edges))].v
	}
	return int64(draw.Uint64() >> draw.Intn(64))
}

// drawnConfig is one that may be.
func drawnConfig(draw *rand.Rand) api.Config {
	c := api.Config{N: 1 + draw.Intn(4), Q: 1 + draw.Intn(8), R: draw.Intn(9), P: 1 + draw.Intn(16), K: draw.Int63n(400), C: draw.Int63n(200)}
	if draw.Intn(4) == 0 {
		c.N = 1 + draw.Intn(16)
		c.C = draw.Int63n(mostAmount/int64(c.N) + 1)
		c.K = draw.Int63n(mostAmount - int64(c.N)*c.C + 1)
	}
	return c
}

// drawnRows are right books behind some steps.
func drawnRows(draw *rand.Rand, c api.Config) []api.Row {
	l := rights.New(c)
	for range draw.Intn(20) {
		who, amount := draw.Intn(c.N), 1+draw.Int63n(6)
		if most := rights.Of(c, l, who); most > 0 && draw.Intn(2) == 0 {
			amount = 1 + draw.Int63n(most)
		}
		out, code := rights.Put(c, l, who, amount)
		switch draw.Intn(4) {
		case 0:
			out, code = rights.Take(c, l, who, amount)
		case 1, 2:
			out, code = rights.Move(c, l, who, draw.Intn(c.N), amount)
		}
		if code == api.OK {
			l = out
		}
	}
	return l
}

// drawnUpTo is a number from 1 to most, often of few bits.
func drawnUpTo(draw *rand.Rand, most int64) int64 {
	return 1 + draw.Int63n(most)>>draw.Intn(50)
}

// drawnNote is a note of who that may be.
func drawnNote(draw *rand.Rand, c api.Config, who int) api.Note {
	n := api.Note{Clock: drawnUpTo(draw, mostTime) - int64(draw.Intn(2)), Asks: draw.Intn(c.R + 1)}
	if draw.Intn(3) > 0 {
		n.Head = ask(drawnUpTo(draw, mostTime), who, drawnUpTo(draw, mostAmount))
	}
	if draw.Intn(3) > 0 {
		n.Look = api.Look{Try: drawnUpTo(draw, mostTime), Phase: 1 + draw.Intn(2)}
	}
	return n
}

// drawnAudit is one of who that runs.
func drawnAudit(draw *rand.Rand, c api.Config, who int) api.Audit {
	a := api.Audit{Look: api.Look{Try: drawnUpTo(draw, mostTime), Phase: 1 + draw.Intn(2)}, Moved: draw.Intn(2) == 0}
	for of := range c.N {
		a.Told = append(a.Told, of != who && draw.Intn(2) == 0)
		a.Use, a.Inc = append(a.Use, drawnUpTo(draw, mostAmount)-int64(draw.Intn(2))), append(a.Inc, drawnUpTo(draw, mostAmount)-int64(draw.Intn(2)))
	}
	return a
}

// drawnBook is a book of who that may be.
func drawnBook(draw *rand.Rand, c api.Config, who int) api.Book {
	k := api.Book{Clock: drawnUpTo(draw, mostTime) + 20, Rows: drawnRows(draw, c)}
	k.Clock = min(k.Clock, mostTime)
	times := map[int64]bool{}
	for range draw.Intn(c.Q + 1) {
		times[drawnUpTo(draw, k.Clock)] = true
	}
	for time := range times {
		k.Line = append(k.Line, ask(time, who, drawnUpTo(draw, mostAmount)))
	}
	slices.SortFunc(k.Line, func(a, b api.Request) int { return int(a.Id.Time - b.Id.Time) })
	for range draw.Intn(c.Q + 2) {
		k.Outs = append(k.Outs, end(drawnUpTo(draw, k.Clock), who, []api.Code{api.OK, api.Lacking}[draw.Intn(2)]))
	}
	for of := range c.N {
		k.Notes = append(k.Notes, drawnNote(draw, c, of))
	}
	k.Notes[who] = api.Note{}
	if len(k.Line) > 0 {
		k.Asks = draw.Intn(c.R + 1)
		if draw.Intn(2) == 0 {
			k.Audit = drawnAudit(draw, c, who)
		}
	}
	return k
}

// anyBook is a book of any numbers and lists.
func anyBook(draw *rand.Rand) api.Book {
	number := func() int64 { return drawnNumber(draw) }
	stamp := func() api.Stamp { return api.Stamp{Time: number(), Who: int(number())} }
	k := api.Book{Clock: number(), Asks: int(number())}
	for range draw.Intn(5) {
		r := of(number(), number())
		for range draw.Intn(5) {
			r.Out = append(r.Out, number())
		}
		k.Rows = append(k.Rows, r)
	}
	for range draw.Intn(5) {
		k.Line = append(k.Line, api.Request{Id: stamp(), Amount: number()})
	}
	for range draw.Intn(5) {
		k.Outs = append(k.Outs, api.Outcome{Id: stamp(), Code: api.Code(number())})
	}
	for range draw.Intn(5) {
		k.Notes = append(k.Notes, api.Note{Clock: number(), Head: api.Request{Id: stamp(), Amount: number()}, Asks: int(number()), Look: api.Look{Try: number(), Phase: int(number())}})
	}
	if draw.Intn(3) > 0 {
		k.Audit.Look = api.Look{Try: number(), Phase: int(number())}
	}
	k.Audit.Moved = draw.Intn(3) == 0
	for range draw.Intn(5) {
		k.Audit.Told = append(k.Audit.Told, draw.Intn(2) == 0)
	}
	for range draw.Intn(5) {
		k.Audit.Use = append(k.Audit.Use, number())
	}
	for range draw.Intn(5) {
		k.Audit.Inc = append(k.Audit.Inc, number())
	}
	return k
}

// spoilt are bytes of which one is another one, one is more, one is fewer, or some numbers are others.
func spoilt(draw *rand.Rand, b []byte) []byte {
	b = slices.Clone(b)
	if len(b) == 0 {
		return b
	}
	at := draw.Intn(len(b))
	switch draw.Intn(7) {
	case 0:
		b[at] = byte(draw.Intn(256))
	case 1:
		b[at] ^= 1 << draw.Intn(8)
	case 2:
		return slices.Insert(b, at, byte(draw.Intn(256)))
	case 3:
		return slices.Delete(b, at, at+1)
	case 4:
		return slices.Insert(b, at, digits(drawnNumber(draw))...)
	case 5:
		return slices.Replace(b, at, at+1, []byte(noNumber[draw.Intn(len(noNumber))])...)
	default:
		if b[at] < 127 {
			b[at]++
		}
	}
	return b
}

// TestPutByWords: P17.2, books of any numbers, and with any lists, and whose bytes these are by configs of any number of replicas.
func TestPutByWords(t *testing.T) {
	draw := rand.New(rand.NewSource(171))
	for range 10000 {
		k := anyBook(draw)
		holdPut(t, k, words(k))
		for _, c := range []api.Config{drawnConfig(draw), config(len(k.Rows))} {
			who := draw.Intn(c.N + 1)
			holdWords(t, c, who, words(k))
			if got := book.May(c, who, k); got != bookMay(c, who, k) {
				t.Errorf("P17.1: May(%+v, %d, %+v): %t", c, who, k, got)
			}
		}
	}
}

// TestMayByWords: P17.1, books that may be, and such of which some numbers are others.
func TestMayByWords(t *testing.T) {
	draw := rand.New(rand.NewSource(172))
	some := map[bool]int{}
	for range 30000 {
		c := drawnConfig(draw)
		who := draw.Intn(c.N)
		k := drawnBook(draw, c, who)
		for range draw.Intn(3) {
			l := places(&k)
			p := l[draw.Intn(len(l))]
			for p.set == nil {
				p = l[draw.Intn(len(l))]
			}
			switch draw.Intn(4) {
			case 0:
				p.set(drawnNumber(draw))
			case 1:
				p.set(p.v - 1)
			default:
				p.set(p.v + 1)
			}
		}
		may := bookMay(c, who, k)
		some[may]++
		holdMay(t, c, who, k, may)
	}
	if some[true] < 5000 || some[false] < 5000 {
		t.Errorf("too few of a kind were tried: %v", some)
	}
}

// TestTakeByWords: P17.2, bytes of books that may be, whole and spoilt, and drawn bytes, by configs, and as books of replicas, that are theirs, and others.
func TestTakeByWords(t *testing.T) {
	draw := rand.New(rand.NewSource(173))
	some := map[bool]int{}
	for range 30000 {
		c := drawnConfig(draw)
		who := draw.Intn(c.N)
		b := words(drawnBook(draw, c, who))
		for range draw.Intn(4) {
			b = spoilt(draw, b)
		}
		if draw.Intn(16) == 0 {
			b = make([]byte, draw.Intn(60))
			draw.Read(b)
		}
		if draw.Intn(8) == 0 {
			c = drawnConfig(draw)
		}
		if draw.Intn(8) == 0 {
			who = draw.Intn(c.N+2) - 1
		}
		some[holdWords(t, c, who, b)]++
	}
	if some[true] < 5000 || some[false] < 5000 {
		t.Errorf("too few of a kind were tried: %v", some)
	}
}

// TestTakeSmall: P17.2, drawn bytes of about as many numbers as a book of one replica has, most of them small: some are right by chance.
func TestTakeSmall(t *testing.T) {
	draw := rand.New(rand.NewSource(174))
	c, some := config(1), map[bool]int{}
	for range 200000 {
		b := make([]byte, 15+draw.Intn(8))
		for at := range b {
			b[at] = byte(draw.Intn(1 + draw.Intn(2) + draw.Intn(2)*draw.Intn(3)))
		}
		if draw.Intn(2) == 0 {
			b[0], b[3] = 7, 0
			clear(b[min(len(b), 7):min(len(b), 14)])
		}
		some[holdWords(t, c, 0, b)]++
	}
	if some[true] < 300 || some[false] < 3000 {
		t.Errorf("too few of a kind were tried: %v", some)
	}
}

// TestPutIsTaken: P17.3, what may be is taken as it was put, and by no more and no fewer bytes; two frames of them are within the bound.
func TestPutIsTaken(t *testing.T) {
	draw := rand.New(rand.NewSource(175))
	for range 20000 {
		c := drawnConfig(draw)
		who := draw.Intn(c.N)
		k := drawnBook(draw, c, who)
		if !bookMay(c, who, k) || !book.May(c, who, k) {
			t.Fatalf("the test's own draws, or P17.1: %+v may not be by %+v", k, c)
		}
		b := book.Put(k)
		hold(t, "P17.3", c, who, b, k)
		holdNone(t, c, who, b[:draw.Intn(len(b))])
		holdNone(t, c, who, append(b, byte(draw.Intn(256))))
		holdFrames(t, c, k)
		if len(b) > mostBytes(c.N, c.Q) {
			t.Errorf("the test's own reckoning: a book of %d bytes, by %+v", len(b), c)
		}
	}
}

// TestTakenIsPut: P17.2, the other way round: what is taken may be, and is put as the bytes that it was taken from.
func TestTakenIsPut(t *testing.T) {
	draw := rand.New(rand.NewSource(176))
	some := 0
	for range 30000 {
		c := drawnConfig(draw)
		who := draw.Intn(c.N)
		b := words(drawnBook(draw, c, who))
		for range draw.Intn(4) {
			b = spoilt(draw, b)
		}
		k, ok := book.Take(c, who, b)
		if !ok {
			continue
		}
		some++
		if !book.May(c, who, k) || !bytes.Equal(book.Put(k), b) {
			t.Errorf("P17.3: Take(%+v, %d, %x): %+v", c, who, b, k)
		}
	}
	if some < 5000 {
		t.Errorf("too few were taken: %d", some)
	}
}

// TestPutMuch: P17.2, many of all that there can be many of: what stands there already isn't gone through for each number anew.
func TestPutMuch(t *testing.T) {
	k := api.Book{Clock: 9, Rows: slices.Repeat([]api.Row{of(1, 300, 0, 127)}, 1<<15)}
	k.Line, k.Outs = slices.Repeat([]api.Request{ask(9, 1, 300)}, 1<<16), slices.Repeat([]api.Outcome{end(300, 1, api.OK)}, 1<<16)
	k.Notes = slices.Repeat([]api.Note{{Clock: 300, Head: ask(9, 0, 5)}}, 1<<15)
	k.Audit = api.Audit{Told: make([]bool, 1<<16), Use: make([]int64, 1<<15), Inc: make([]int64, 1<<17)}
	if got := book.Put(k); !bytes.Equal(got, words(k)) {
		t.Errorf("P17.2: Put, of much: %d bytes", len(got))
	}
	holdNone(t, config(16), 0, words(k))
	// Many wait, as many as are told; each of them is there.
	c := config(1)
	k = bare(c)
	k.Line = slices.Repeat([]api.Request{ask(1, 0, 300)}, 1<<17)
	k.Outs = slices.Repeat([]api.Outcome{end(1, 0, api.OK)}, 1<<17)
	holdNone(t, c, 0, words(k))
}

// roomy is the same list with room behind it, in which such elements stand.
func roomy[T any](l []T, x T) []T {
	return append(slices.Clone(l), x, x, x, x, x, x, x, x, x, x, x, x)[:len(l)]
}

// handed is a book of 1 that may be, all of whose lists have spare room, none of it zero.
func handed(c api.Config) api.Book {
	k := full(c, 1)
	for i, r := range k.Rows {
		k.Rows[i].Out = roomy(r.Out, -7)
	}
	k.Rows = roomy(k.Rows, of(-9, -9, -9))
	k.Line, k.Outs = roomy(k.Line, ask(-9, -9, -9)), roomy(k.Outs, end(-9, -9, -9))
	k.Notes = roomy(k.Notes, api.Note{Clock: -9, Head: ask(-9, -9, -9)})
	k.Audit.Told, k.Audit.Use, k.Audit.Inc = roomy(k.Audit.Told, true), roomy(k.Audit.Use, -9), roomy(k.Audit.Inc, -9)
	return k
}

// all is a list with its spare room, in memory of its own.
func all[T any](l []T) []T { return slices.Clone(l[:cap(l)]) }

// room is all that a book holds, its spare room too, in memory of its own.
func room(k api.Book) []any {
	l := []any{k.Clock, k.Asks, k.Audit.Look, k.Audit.Moved, len(k.Rows), len(k.Line), len(k.Outs), len(k.Notes), len(k.Audit.Told), len(k.Audit.Use), len(k.Audit.Inc)}
	l = append(l, all(k.Line), all(k.Outs), all(k.Notes), all(k.Audit.Told), all(k.Audit.Use), all(k.Audit.Inc))
	for _, r := range k.Rows[:cap(k.Rows)] {
		l = append(l, r.Inc, r.Use, len(r.Out), all(r.Out))
	}
	return l
}

// TestPutStays: rules 3 and 4, the book that came in stays as it was, its spare room too, whether it may be or not; what was answered doesn't change with it, nor with other answers.
func TestPutStays(t *testing.T) {
	for _, n := range []int{2, 3, 16} {
		c := config(n)
		for _, k := range []api.Book{handed(c), with(handed(c), func(k *api.Book) { k.Clock = -1 }), with(handed(c), func(k *api.Book) { k.Audit.Use, k.Audit.Inc = k.Audit.Use[:1], nil })} {
			kept, want, may := room(k), words(k), bookMay(c, 1, k)
			for range 3 {
				b := book.Put(k)
				if !bytes.Equal(b, want) {
					t.Fatalf("rule 4: Put: %x, want %x", b, want)
				}
				clear(b[:cap(b)])
				if got := book.May(c, 1, k); got != may {
					t.Fatalf("rule 4: May: %t", got)
				}
				if now := room(k); !reflect.DeepEqual(now, kept) {
					t.Fatalf("rule 3: the book that came in is %+v now, want %+v", now, kept)
				}
			}
			first, second := book.Put(k), book.Put(k)
			_ = append(second, "more"...)
			clear(second)
			spoil(k)
			if !bytes.Equal(first, want) {
				t.Errorf("rule 3: Put: it was %x, and is %x now", want, first)
			}
		}
	}
}

// overwrite writes over a list, its spare room too.
func overwrite[T any](l []T, x T) {
	l = l[:cap(l)]
	for i := range l {
		l[i] = x
	}
}

// spoil writes over all that a book holds, its spare room too.
func spoil(k api.Book) {
	for _, r := range k.Rows {
		overwrite(r.Out, -5)
	}
	overwrite(k.Rows, of(-5, -5, -5))
	overwrite(k.Line, ask(-5, -5, -5))
	overwrite(k.Outs, end(-5, -5, -5))
	overwrite(k.Notes, api.Note{Clock: -5, Head: ask(-5, -5, -5), Asks: -5, Look: api.Look{Try: -5, Phase: -5}})
	overwrite(k.Audit.Told, true)
	overwrite(k.Audit.Use, -5)
	overwrite(k.Audit.Inc, -5)
}

// TestTakeStays: rules 3 and 4, the bytes that came in stay as they were, their spare room too, whether they are a book's or not; what was answered doesn't change with them, nor with other answers.
func TestTakeStays(t *testing.T) {
	for _, n := range []int{2, 3, 16} {
		c := config(n)
		want := full(c, 1)
		whole := words(want)
		for _, size := range []int{len(whole), len(whole) - 1, 4, 1, 0} {
			b := roomy(whole[:size], 'r')
			kept := all(b)
			for range 3 {
				k, ok := book.Take(c, 1, b)
				if ok != (size == len(whole)) {
					t.Fatalf("rule 4: Take(%+v, 1, %x): %t", c, b, ok)
				}
				spoil(k)
				if now := b[:cap(b)]; !bytes.Equal(now, kept) {
					t.Fatalf("rule 3: the bytes that came in are %x now, want %x", now, kept)
				}
			}
		}
		b := roomy(whole, 'r')
		first, _ := book.Take(c, 1, b)
		second, _ := book.Take(c, 1, b)
		clear(b[:cap(b)])
		spoil(second)
		if !same(first, want) {
			t.Errorf("rule 3: Take: it was %+v, and is %+v now", want, first)
		}
		holdNone(t, c, 1, b)
	}
}

// TestNewStays: rules 3 and 4, a new book doesn't change with what is done to another one.
func TestNewStays(t *testing.T) {
	c := config(3)
	first, _ := book.New(c, 1)
	second, _ := book.New(c, 1)
	spoil(second)
	if third, code := book.New(c, 1); !same(first, bare(c)) || !same(third, bare(c)) || code != api.OK {
		t.Errorf("rule 3: New: %+v, %+v, want %+v", first, third, bare(c))
	}
}

// TestListsApart: no two lists of one answer share memory.
func TestListsApart(t *testing.T) {
	c := config(4)
	for _, fresh := range []bool{true, false} {
		want := bare(c)
		k, _ := book.New(c, 1)
		if !fresh {
			want = full(c, 1)
			k, _ = book.Take(c, 1, words(want))
		}
		step := func(name string) {
			if !same(k, want) {
				t.Errorf("rule 7: %s share memory with others: %+v, want %+v", name, k, want)
			}
		}
		for who := range k.Rows {
			overwrite(k.Rows[who].Out, 77)
			want.Rows[who].Out = []int64{77, 77, 77, 77}
			step("Outs of a row")
		}
		overwrite(k.Audit.Use, 78)
		overwrite(want.Audit.Use, 78)
		step("Use")
		overwrite(k.Audit.Inc, 79)
		overwrite(want.Audit.Inc, 79)
		step("Inc")
	}
}
