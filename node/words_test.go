package node_test

import (
	"math"
	"reflect"
	"slices"
	"testing"

	"coffers/api"
	"coffers/audit"
	"coffers/book"
	"coffers/claim"
	"coffers/node"
	"coffers/rights"
	"coffers/row"
	"coffers/share"
	"coffers/wait"
	"coffers/want"
)

// The greatest amount, the most that may be moved, and the greatest time.
const (
	mostAmount = 1 << 40
	mostMove   = 1 << 50
	mostTime   = 1 << 50
)

// What the fresh nodes of these tests have: their clock, and that of each of their notes.
const (
	now   = 50
	heard = 20
)

// farWhos are no replicas of n.
func farWhos(n int) []int {
	return []int{-1, -2, -n, -1 << 32, n, n + 1, n + 16, n + 1<<32, 1 << 62, math.MinInt, math.MinInt + 1, math.MaxInt}
}

// config is one of n replicas, each of which has the share 100.
func config(n int) api.Config {
	return api.Config{N: n, Q: 3, R: 2, P: 4, K: int64(100 * n), C: 60}
}

// wrongConfigs are some that may not be, of 2 replicas where they can: one thing is wrong with each.
func wrongConfigs() []api.Config {
	list := []api.Config{{}}
	for _, spoil := range []func(c *api.Config){
		func(c *api.Config) { c.N = 0 },
		func(c *api.Config) { c.N = -1 },
		func(c *api.Config) { c.N = -2 },
		func(c *api.Config) { c.N = 17 },
		func(c *api.Config) { c.N = 1 << 40 },
		func(c *api.Config) { c.N = math.MinInt },
		func(c *api.Config) { c.N = math.MaxInt },
		func(c *api.Config) { c.Q = 0 },
		func(c *api.Config) { c.Q = -1 },
		func(c *api.Config) { c.Q = 9 },
		func(c *api.Config) { c.Q = math.MaxInt },
		func(c *api.Config) { c.R = -1 },
		func(c *api.Config) { c.R = 9 },
		func(c *api.Config) { c.P = 0 },
		func(c *api.Config) { c.P = 17 },
		func(c *api.Config) { c.K = -1 },
		func(c *api.Config) { c.K = mostAmount + 1 },
		func(c *api.Config) { c.C = -1 },
		func(c *api.Config) { c.C = mostAmount },
		func(c *api.Config) { c.C = math.MaxInt64 },
	} {
		c := config(2)
		spoil(&c)
		list = append(list, c)
	}
	return list
}

// of is a row, written short.
func of(inc, use int64, out ...int64) api.Row { return api.Row{Inc: inc, Use: use, Out: out} }

// ask is a request, written short.
func ask(time int64, who int, amount int64) api.Request {
	return api.Request{Id: api.Stamp{Time: time, Who: who}, Amount: amount}
}

// end is an outcome, written short.
func end(time int64, who int, code api.Code) api.Outcome {
	return api.Outcome{Id: api.Stamp{Time: time, Who: who}, Code: code}
}

// fresh is a node of who that heard of all others, but of no request; with an outcome of the step ahead.
func fresh(c api.Config, who int) api.Node {
	k := api.Book{Clock: now, Rows: rights.New(c), Outs: []api.Outcome{end(3, who, api.OK)}, Notes: make([]api.Note, c.N)}
	for of := range k.Notes {
		if of != who {
			k.Notes[of].Clock = heard
		}
	}
	return api.Node{Book: k}
}

// waiting is a fresh node at which these amounts wait, since the times 11, 12, and so on.
func waiting(c api.Config, who int, amounts ...int64) api.Node {
	n := fresh(c, who)
	for i, amount := range amounts {
		n.Book.Line = append(n.Book.Line, ask(11+int64(i), who, amount))
	}
	return n
}

// run is an audit that runs in that phase, by the rows: all of told told.
func run(l []api.Row, phase int, told ...int) api.Audit {
	a := api.Audit{Look: api.Look{Try: 40, Phase: phase}, Told: make([]bool, len(l))}
	for _, r := range l {
		a.Use, a.Inc = append(a.Use, r.Use), append(a.Inc, r.Inc)
	}
	for _, of := range told {
		a.Told[of] = true
	}
	return a
}

// others are all replicas but that one.
func others(c api.Config, but int) (l []int) {
	for of := range c.N {
		if of != but {
			l = append(l, of)
		}
	}
	return l
}

// claims is a note of one for whom so much waits since then, as often asked for as may be.
func claims(c api.Config, of int, time, amount int64) api.Note {
	return api.Note{Clock: heard, Head: ask(time, of, amount), Asks: c.R}
}

// letter is a message of one that knows no more than the node: its clock is that.
func letter(c api.Config, from, to int, n api.Node, clock int64) api.Mail {
	return api.Mail{From: from, To: to, Clock: clock, Rows: copiedRows(n.Book.Rows), Echo: make([]api.Look, c.N)}
}

// copiedRows are the same rows, in memory of their own.
func copiedRows(l []api.Row) []api.Row {
	l = slices.Clone(l)
	for i, r := range l {
		l[i].Out = slices.Clone(r.Out)
	}
	return l
}

// copied is the same node, in memory of its own.
func copied(n api.Node) api.Node {
	k := &n.Book
	k.Rows, k.Line, k.Outs, k.Notes = copiedRows(k.Rows), slices.Clone(k.Line), slices.Clone(k.Outs), slices.Clone(k.Notes)
	k.Audit.Told, k.Audit.Use, k.Audit.Inc = slices.Clone(k.Audit.Told), slices.Clone(k.Audit.Use), slices.Clone(k.Audit.Inc)
	n.Wake.Asked = slices.Clone(n.Wake.Asked)
	return n
}

// with is the same node, in memory of its own, with something done to it.
func with(n api.Node, changes ...func(n *api.Node)) api.Node {
	n = copied(n)
	for _, change := range changes {
		change(&n)
	}
	return n
}

// withMail is the same message, its rows and looks in memory of their own, with something done to it.
func withMail(m api.Mail, change func(m *api.Mail)) api.Mail {
	m.Rows, m.Echo = copiedRows(m.Rows), slices.Clone(m.Echo)
	change(&m)
	return m
}

// sameAudit: are two audits the same, lists element by element?
func sameAudit(a, b api.Audit) bool {
	return a.Look == b.Look && slices.Equal(a.Told, b.Told) && slices.Equal(a.Use, b.Use) && slices.Equal(a.Inc, b.Inc) && a.Moved == b.Moved
}

// sameBook: are two books the same, lists element by element?
func sameBook(a, b api.Book) bool {
	lists := sameRows(a.Rows, b.Rows) && slices.Equal(a.Line, b.Line) && slices.Equal(a.Outs, b.Outs) && slices.Equal(a.Notes, b.Notes)
	return lists && a.Clock == b.Clock && a.Asks == b.Asks && sameAudit(a.Audit, b.Audit)
}

// sameRows: are two lists of rows the same?
func sameRows(a, b []api.Row) bool { return slices.EqualFunc(a, b, row.Same) }

// same: are two nodes the same, lists element by element?
func same(a, b api.Node) bool {
	return sameBook(a.Book, b.Book) && a.Wake.Ticks == b.Wake.Ticks && a.Wake.Next == b.Wake.Next && slices.Equal(a.Wake.Asked, b.Wake.Asked)
}

// sameMail: are two messages the same, lists element by element?
func sameMail(a, b api.Mail) bool {
	told := a.Clock == b.Clock && a.Head == b.Head && a.Asks == b.Asks && a.Look == b.Look
	return a.From == b.From && a.To == b.To && told && sameRows(a.Rows, b.Rows) && slices.Equal(a.Echo, b.Echo)
}

// nodeMay: the words of a node of who.
func nodeMay(c api.Config, who int, n api.Node) bool {
	ticks := n.Wake.Ticks >= 0 && n.Wake.Ticks <= mostTime
	return ticks && n.Wake.Next >= 0 && n.Wake.Next-n.Wake.Ticks <= 16 && len(n.Wake.Asked) < 65 && book.May(c, who, n.Book)
}

// first is the head of a book.
func first(k api.Book) (head api.Request) {
	if len(k.Line) > 0 {
		head = k.Line[0]
	}
	return head
}

// gone is a book whose head left with that outcome.
func gone(k api.Book, code api.Code) api.Book {
	k.Outs = append(k.Outs, api.Outcome{Id: k.Line[0].Id, Code: code})
	k.Line, k.Asks, k.Audit = k.Line[1:], 0, api.Audit{}
	return k
}

// settled: the words, of a book in memory of its own.
func settled(c api.Config, who int, k api.Book) api.Book {
	for len(k.Line) > 0 && !claim.Held(c, who, k.Notes, k.Line[0].Id) {
		l, code := rights.Take(c, k.Rows, who, k.Line[0].Amount)
		if code != api.OK {
			break
		}
		k.Rows = l
		k = gone(k, api.OK)
	}
	if a, ok := audit.Next(c, who, k.Audit, k.Rows); ok {
		k.Audit = a
	}
	if most, sure, ok := audit.Ends(c, who, k.Audit, k.Rows); ok {
		k.Audit = api.Audit{}
		if sure && most < k.Line[0].Amount {
			return settled(c, who, gone(k, api.Lacking))
		}
	}
	if to, ok := claim.Calls(c, who, k.Notes, first(k)); ok {
		missing := mostMove - k.Rows[who].Out[to]
		if amount := min(missing, rights.Of(c, k.Rows, who)); amount > 0 {
			k.Rows[who].Out[to] += amount
		}
	}
	return k
}

// moves is a book in which so much was moved, if that may be.
func moves(c api.Config, who int, k api.Book, to int, amount int64) api.Book {
	if l, code := rights.Move(c, k.Rows, who, to, amount); code == api.OK {
		k.Rows = l
	}
	return k
}

// incWords: the words of Inc.
func incWords(c api.Config, who int, n api.Node, amount int64) (api.Node, api.Code) {
	if !nodeMay(c, who, n) {
		return n, api.Arg
	}
	l, code := rights.Put(c, n.Book.Rows, who, amount)
	if code != api.OK {
		return n, code
	}
	out := copied(n)
	out.Book.Rows, out.Book.Outs = l, nil
	out.Book = settled(c, who, out.Book)
	return out, api.OK
}

// decWords: the words of Dec.
func decWords(c api.Config, who int, n api.Node, amount int64) (api.Node, api.Stamp, api.Code) {
	switch {
	case !nodeMay(c, who, n):
		return n, api.Stamp{}, api.Arg
	case amount < 1 || amount > mostAmount:
		return n, api.Stamp{}, api.Invalid
	case len(n.Book.Line) == c.Q:
		return n, api.Stamp{}, api.Busy
	case n.Book.Clock == mostTime:
		return n, api.Stamp{}, api.Range
	}
	out := copied(n)
	out.Book.Clock++
	r := ask(out.Book.Clock, who, amount)
	out.Book.Line, out.Book.Outs = append(out.Book.Line, r), nil
	out.Wake.Asked = want.Keep(out.Wake.Asked, amount)
	out.Book = settled(c, who, out.Book)
	return out, r.Id, api.OK
}

// tickWords: the words of Tick.
func tickWords(c api.Config, who int, n api.Node, draw uint32) (api.Node, []api.Mail, api.Code) {
	if !nodeMay(c, who, n) {
		return n, nil, api.Arg
	}
	if n.Wake.Ticks == mostTime {
		return n, nil, api.Range
	}
	out := copied(n)
	out.Wake.Ticks++
	out.Wake.Asked = want.Keep(out.Wake.Asked, 0)
	if out.Wake.Ticks < out.Wake.Next {
		return out, nil, api.OK
	}
	k, ok := writes(c, who, out.Book, out.Wake.Asked)
	if !ok {
		return n, nil, api.Range
	}
	var l []api.Mail
	for _, to := range others(c, who) {
		k.Clock++
		if k.Clock > mostTime {
			return n, nil, api.Range
		}
		m := api.Mail{From: who, To: to, Clock: k.Clock, Rows: copiedRows(k.Rows), Head: first(k), Asks: k.Asks, Look: k.Audit.Look}
		for _, note := range k.Notes {
			m.Echo = append(m.Echo, note.Look)
		}
		l = append(l, m)
	}
	out.Book = k
	out.Wake.Next = out.Wake.Ticks + int64(wait.Wait(c.P, k.Asks, draw))
	return out, l, api.OK
}

// writes: the words of what is done ahead of writing to others; false, if there is no time more.
func writes(c api.Config, who int, k api.Book, asked []int64) (api.Book, bool) {
	k.Outs = nil
	_, claimed := claim.Oldest(c, who, k.Notes)
	if len(k.Line) == 0 {
		if !claimed {
			much, _ := want.Estimate(asked)
			to, amount := share.Give(c, k.Rows, who, much)
			k = moves(c, who, k, to, amount)
		}
		return settled(c, who, k), true
	}
	k.Asks = min(k.Asks+1, c.R)
	if k.Asks == c.R && k.Audit.Look.Phase == 0 && !claim.Held(c, who, k.Notes, k.Line[0].Id) {
		k.Clock++
		if k.Clock > mostTime {
			return k, false
		}
		k.Audit, _ = audit.Begin(c, who, k.Clock)
	}
	return settled(c, who, k), true
}

// hearWords: the words of Hear.
func hearWords(c api.Config, who int, n api.Node, m api.Mail) (api.Node, api.Code) {
	if !nodeMay(c, who, n) || !claim.MayMail(c, m) || m.To != who {
		return n, api.Arg
	}
	if n.Book.Clock == mostTime || m.Clock == mostTime {
		return n, api.Range
	}
	l, code := rights.Join(c, n.Book.Rows, m.Rows)
	if code != api.OK {
		return n, code
	}
	out := copied(n)
	k := out.Book
	k.Clock, k.Rows, k.Outs = 1+max(k.Clock, m.Clock), l, nil
	fresh := m.Clock > k.Notes[m.From].Clock
	k.Notes, _ = claim.Hear(c, who, k.Notes, m)
	k.Audit, _ = audit.Tell(c, who, k.Audit, m)
	_, claimed := claim.Oldest(c, who, k.Notes)
	if fresh && m.Head.Amount > 0 && m.Asks < c.R && len(k.Line) == 0 && !claimed {
		much, _ := want.Estimate(n.Wake.Asked)
		k = moves(c, who, k, m.From, share.Grant(c, k.Rows, who, much, m.From, m.Head.Amount))
	}
	out.Book = settled(c, who, k)
	return out, api.OK
}

// all is a list with its spare room, in memory of its own.
func all[T any](l []T) []T { return slices.Clone(l[:cap(l)]) }

// rowsRoom is all that rows hold, their spare room too, in memory of its own.
func rowsRoom(l []api.Row) (some []any) {
	for _, r := range l[:cap(l)] {
		some = append(some, r.Inc, r.Use, len(r.Out), all(r.Out))
	}
	return append(some, len(l))
}

// room is all that a node holds, its spare room too, in memory of its own.
func room(n api.Node) []any {
	k := n.Book
	l := []any{k.Clock, k.Asks, k.Audit.Look, k.Audit.Moved, len(k.Line), len(k.Outs), len(k.Notes), len(k.Audit.Told), len(k.Audit.Use), len(k.Audit.Inc)}
	l = append(l, all(k.Line), all(k.Outs), all(k.Notes), all(k.Audit.Told), all(k.Audit.Use), all(k.Audit.Inc), rowsRoom(k.Rows))
	return append(l, n.Wake.Ticks, n.Wake.Next, len(n.Wake.Asked), all(n.Wake.Asked))
}

// mailRoom is all that a message holds, its spare room too, in memory of its own.
func mailRoom(m api.Mail) []any {
	return []any{m.From, m.To, m.Clock, m.Head, m.Asks, m.Look, len(m.Echo), all(m.Echo), rowsRoom(m.Rows)}
}

// stays: what a node, and a message, held ahead of a call they hold behind it; it is asked behind.
func stays(t *testing.T, n api.Node, m api.Mail) func() {
	t.Helper()
	kept, letter := room(n), mailRoom(m)
	return func() {
		t.Helper()
		if is := room(n); !reflect.DeepEqual(is, kept) {
			t.Errorf("rule 3: the node that came in is %+v now, want %+v", is, kept)
		}
		if is := mailRoom(m); !reflect.DeepEqual(is, letter) {
			t.Errorf("rule 3: the message that came in is %+v now, want %+v", is, letter)
		}
	}
}

// holdBehind: behind a step that told OK, of a node that may be, the node may be; behind one that didn't it is as it was.
func holdBehind(t *testing.T, c api.Config, who int, n, got api.Node, code api.Code) {
	t.Helper()
	if code != api.OK && !same(got, n) {
		t.Errorf("beside %d, of %+v, %d, the node %+v is %+v", code, c, who, n, got)
	}
	if code == api.OK && !node.May(c, who, got) {
		t.Errorf("P18.5: behind a step, of %+v, %d, %+v, the node %+v may not be", c, who, n, got)
	}
}

// holdMay: May answers this; if it is false, no other call knows the node.
func holdMay(t *testing.T, c api.Config, who int, n api.Node, may bool) {
	t.Helper()
	if got := node.May(c, who, n); got != may {
		t.Errorf("P18.1: May(%+v, %d, %+v): %t, want %t", c, who, n, got, may)
	}
	if got, want := node.Read(c, who, n), rights.Value(c, n.Book.Rows); may && got != want || !may && got != 0 {
		t.Errorf("P18.1: Read(%+v, %d, %+v): %d, want %d, if %t", c, who, n, got, want, may)
	}
	if may {
		return
	}
	// Arg comes ahead of whatever else is wrong.
	for _, amount := range []int64{5, 0, 1 << 50} {
		holdInc(t, c, who, n, amount, n, api.Arg)
		holdDec(t, c, who, n, amount, n, api.Stamp{}, api.Arg)
	}
	holdTick(t, c, who, n, 1, n, nil, api.Arg)
	holdHear(t, c, who, n, api.Mail{}, n, api.Arg)
	for _, from := range []int{0, 1} {
		holdHear(t, c, who, n, letter(config(2), from, who, fresh(config(2), 0), 30), n, api.Arg)
	}
}

// holdInc: Inc answers this.
func holdInc(t *testing.T, c api.Config, who int, n api.Node, amount int64, want api.Node, code api.Code) {
	t.Helper()
	stayed := stays(t, n, api.Mail{})
	got, e := node.Inc(c, who, n, amount)
	if !same(got, want) || e != code {
		t.Errorf("P18.2: Inc(%+v, %d, %+v, %d): %+v, %d, want %+v, %d", c, who, n, amount, got, e, want, code)
	}
	stayed()
	holdBehind(t, c, who, n, got, e)
}

// holdDec: Dec answers this.
func holdDec(t *testing.T, c api.Config, who int, n api.Node, amount int64, want api.Node, id api.Stamp, code api.Code) {
	t.Helper()
	stayed := stays(t, n, api.Mail{})
	got, s, e := node.Dec(c, who, n, amount)
	if !same(got, want) || s != id || e != code {
		t.Errorf("P18.2: Dec(%+v, %d, %+v, %d): %+v, %v, %d, want %+v, %v, %d", c, who, n, amount, got, s, e, want, id, code)
	}
	stayed()
	holdBehind(t, c, who, n, got, e)
	// What follows: it is answered in that step.
	_, claimed := claim.Oldest(c, who, n.Book.Notes)
	if e == api.OK && len(n.Book.Line) == 0 && !claimed && amount <= rights.Of(c, n.Book.Rows, who) {
		if outs := []api.Outcome{{Id: s}}; !slices.Equal(got.Book.Outs, outs) || len(got.Book.Line) > 0 {
			t.Errorf("P18.5: Dec(%+v, %d, %+v, %d): %+v, want it with %+v", c, who, n, amount, got, outs)
		}
	}
}

// holdTick: Tick answers this.
func holdTick(t *testing.T, c api.Config, who int, n api.Node, draw uint32, want api.Node, mail []api.Mail, code api.Code) {
	t.Helper()
	stayed := stays(t, n, api.Mail{})
	got, l, e := node.Tick(c, who, n, draw)
	if !same(got, want) || !slices.EqualFunc(l, mail, sameMail) || e != code {
		t.Errorf("P18.3: Tick(%+v, %d, %+v, %d): %+v, %+v, %d, want %+v, %+v, %d", c, who, n, draw, got, l, e, want, mail, code)
	}
	stayed()
	holdBehind(t, c, who, n, got, e)
	for _, m := range l {
		if !claim.MayMail(c, m) {
			t.Errorf("P18.5: Tick(%+v, %d, %+v, %d): %+v may not be", c, who, n, draw, m)
		}
	}
}

// holdHear: Hear answers this.
func holdHear(t *testing.T, c api.Config, who int, n api.Node, m api.Mail, want api.Node, code api.Code) {
	t.Helper()
	stayed := stays(t, n, m)
	got, e := node.Hear(c, who, n, m)
	if !same(got, want) || e != code {
		t.Errorf("P18.4: Hear(%+v, %d, %+v, %+v): %+v, %d, want %+v, %d", c, who, n, m, got, e, want, code)
	}
	stayed()
	holdBehind(t, c, who, n, got, e)
}

// holdWords: Inc, Dec, Tick and Hear, of those amounts, draws and messages, answer what the words come to.
func holdWords(t *testing.T, c api.Config, who int, n api.Node, amounts []int64, draws []uint32, mail ...api.Mail) {
	t.Helper()
	for _, amount := range amounts {
		want, code := incWords(c, who, n, amount)
		holdInc(t, c, who, n, amount, want, code)
		want, id, code := decWords(c, who, n, amount)
		holdDec(t, c, who, n, amount, want, id, code)
	}
	for _, draw := range draws {
		want, l, code := tickWords(c, who, n, draw)
		holdTick(t, c, who, n, draw, want, l, code)
	}
	for _, m := range mail {
		want, code := hearWords(c, who, n, m)
		holdHear(t, c, who, n, m, want, code)
	}
}

// holdSettled: a node behind a message that told nothing new is the same, settled so; and whatever else befalls it is by the words.
func holdSettled(t *testing.T, c api.Config, who int, n api.Node, change func(k *api.Book)) {
	t.Helper()
	from := (who + 1) % c.N
	m := letter(c, from, who, n, 1)
	want := with(n, func(n *api.Node) {
		n.Book.Clock, n.Book.Outs = now+1, nil
		change(&n.Book)
	})
	holdHear(t, c, who, n, m, want, api.OK)
	// Also what is known tells the same, if it is settled already.
	later := withMail(m, func(m *api.Mail) { m.Clock, m.Head, m.Asks = heard+1, ask(2, from, 30), 1 })
	holdWords(t, c, who, n, []int64{1, 50, 60, 1000, -1}, []uint32{0, 6}, m, later)
	// Settled, it is settled: the same again changes nothing more.
	holdHear(t, c, who, want, m, with(want, func(n *api.Node) { n.Book.Clock, n.Book.Outs = now+2, nil }), api.OK)
}

// nothing is no change.
func nothing(k *api.Book) {}
