package node_test

import (
	"math"
	"math/rand"
	"reflect"
	"slices"
	"testing"

	"coffers/api"
	"coffers/claim"
	"coffers/node"
	"coffers/rights"
)

// drawnConfig is one that may be.
func drawnConfig(draw *rand.Rand) api.Config {
	c := api.Config{N: 1 + draw.Intn(4), Q: 1 + draw.Intn(3), R: draw.Intn(4), P: 1 + draw.Intn(4), K: draw.Int63n(60), C: draw.Int63n(40)}
	if draw.Intn(8) == 0 {
		c.N, c.Q, c.R, c.P = 1+draw.Intn(16), 1+draw.Intn(8), draw.Intn(9), 1+draw.Intn(16)
		c.C = draw.Int63n(mostAmount/int64(c.N) + 1)
		c.K = draw.Int63n(mostAmount - int64(c.N)*c.C + 1)
	}
	return c
}

// drawnRows are right books behind some steps ahead of which they were l.
func drawnRows(draw *rand.Rand, c api.Config, l []api.Row, steps int) []api.Row {
	for range draw.Intn(steps) {
		who, amount := draw.Intn(c.N), 1+draw.Int63n(6)
		if most := rights.Of(c, l, who); most > 0 && draw.Intn(2) == 0 {
			amount = 1 + draw.Int63n(most)
		}
		out, code := rights.Put(c, l, who, amount)
		switch draw.Intn(4) {
		case 0:
			out, code = rights.Take(c, l, who, amount)
		case 1, 2:
			out, code = rights.Move(c, l, who, draw.Intn(c.N), amount)
		}
		if code == api.OK {
			l = out
		}
	}
	return l
}

// drawnTime is one that may be: mostly a little one, at times one of the last ones.
func drawnTime(draw *rand.Rand) int64 {
	if draw.Intn(30) == 0 {
		return mostTime - int64(draw.Intn(6))
	}
	return 1 + draw.Int63n(20)
}

// drawnLook is none, or one of few.
func drawnLook(draw *rand.Rand) (k api.Look) {
	if draw.Intn(3) > 0 {
		k = api.Look{Try: 1 + draw.Int63n(3), Phase: 1 + draw.Intn(2)}
	}
	return k
}

// drawnAmount is one that may be, most often about what there is.
func drawnAmount(draw *rand.Rand, c api.Config) int64 {
	switch draw.Intn(3) {
	case 0:
		return 1 + draw.Int63n(8)
	case 1:
		return min(1+draw.Int63n(c.K+int64(c.N)*c.C+2), mostAmount)
	}
	return min(1+draw.Int63n(c.K/int64(c.N)+c.C+2), mostAmount)
}

// drawnHead is a request of who that may be; often none.
func drawnHead(draw *rand.Rand, c api.Config, who int) (r api.Request) {
	if draw.Intn(3) > 0 {
		r = ask(drawnTime(draw), who, drawnAmount(draw, c))
	}
	return r
}

// drawnAudit is one of who that runs, by which most told what the rows tell.
func drawnAudit(draw *rand.Rand, c api.Config, who int, l []api.Row) api.Audit {
	a := api.Audit{Look: api.Look{Try: 1 + draw.Int63n(3), Phase: 1 + draw.Intn(2)}, Moved: draw.Intn(6) == 0}
	for of, r := range l {
		a.Told = append(a.Told, of != who && draw.Intn(4) > 0)
		if draw.Intn(12) == 0 {
			r = api.Row{Use: draw.Int63n(50), Inc: draw.Int63n(50)}
		}
		a.Use, a.Inc = append(a.Use, r.Use), append(a.Inc, r.Inc)
	}
	return a
}

// drawnNode is a node of who that may be.
func drawnNode(draw *rand.Rand, c api.Config, who int, l []api.Row) api.Node {
	k := api.Book{Clock: 20 + draw.Int63n(20), Rows: l, Outs: []api.Outcome{end(2, who, api.OK)}[:draw.Intn(2)]}
	if draw.Intn(10) == 0 {
		k.Clock = mostTime - int64(draw.Intn(2*c.N+2))
	}
	for time := range int64(draw.Intn(c.Q + 1)) {
		k.Line = append(k.Line, ask(2*time+1+draw.Int63n(2), who, drawnAmount(draw, c)))
	}
	for of := range c.N {
		n := api.Note{Clock: draw.Int63n(50), Head: drawnHead(draw, c, of), Asks: draw.Intn(c.R + 1), Look: drawnLook(draw)}
		if draw.Intn(2) == 0 {
			n.Head = api.Request{}
		}
		k.Notes = append(k.Notes, n)
	}
	k.Notes[who] = api.Note{}
	if len(k.Line) > 0 {
		k.Asks = draw.Intn(c.R + 1)
		if draw.Intn(3) > 0 {
			k.Audit = drawnAudit(draw, c, who, l)
		}
	}
	n := api.Node{Book: k, Wake: api.Wake{Ticks: draw.Int63n(40)}}
	if draw.Intn(40) == 0 {
		n.Wake.Ticks = mostTime - draw.Int63n(2)
	}
	n.Wake.Next = max(0, n.Wake.Ticks+draw.Int63n(6)-3)
	for range draw.Intn(5) {
		n.Wake.Asked = append(n.Wake.Asked, draw.Int63n(8))
	}
	return n
}

// drawnMail is a message that may be, of a config of 2 replicas or more, to who, whose node is n; most often by rows that can be joined with its own.
func drawnMail(draw *rand.Rand, c api.Config, who int, n api.Node) api.Mail {
	m := api.Mail{From: (who + 1 + draw.Intn(c.N-1)) % c.N, To: who, Clock: 1 + draw.Int63n(60), Asks: draw.Intn(c.R + 1), Look: drawnLook(draw)}
	m.Rows = drawnRows(draw, c, n.Book.Rows, 6)
	if draw.Intn(4) == 0 {
		m.Rows = drawnRows(draw, c, rights.New(c), 12)
	}
	if draw.Intn(20) == 0 {
		m.Clock = mostTime - int64(draw.Intn(3))
	}
	m.Head = drawnHead(draw, c, m.From)
	for range c.N {
		m.Echo = append(m.Echo, drawnLook(draw))
	}
	if draw.Intn(3) > 0 {
		m.Echo[who] = n.Book.Audit.Look
	}
	m.Echo[m.From] = api.Look{}
	return m
}

// spoilt is a message of which something is another one.
func spoilt(draw *rand.Rand, m api.Mail) api.Mail {
	return withMail(m, func(m *api.Mail) {
		v := []int64{-1, 0, 1, 2, 16, mostAmount + 1, mostTime + 1, math.MinInt64, math.MaxInt64}[draw.Intn(9)]
		switch draw.Intn(9) {
		case 0:
			m.From = int(v)
		case 1:
			m.To = int(v)
		case 2:
			m.Clock = v
		case 3:
			m.Asks = int(v)
		case 4:
			m.Head.Amount = v
		case 5:
			m.Head.Id.Who = int(v)
		case 6:
			m.Look.Phase = int(v)
		case 7:
			m.Rows[draw.Intn(len(m.Rows))].Use = v
		case 8:
			m.Echo = m.Echo[:draw.Intn(len(m.Echo)+1)]
		}
	})
}

// TestByWords: P18.2 to P18.5, drawn nodes that may be, by all that befalls one.
func TestByWords(t *testing.T) {
	draw := rand.New(rand.NewSource(181))
	some := map[string]int{}
	for range 8000 {
		c := drawnConfig(draw)
		who := draw.Intn(c.N)
		n := drawnNode(draw, c, who, drawnRows(draw, c, rights.New(c), 20))
		if !nodeMay(c, who, n) {
			t.Fatalf("the test's own draws: %+v may not be by %+v", n, c)
		}
		holdMay(t, c, who, n, true)
		amount := drawnAmount(draw, c)
		holdWords(t, c, who, n, []int64{amount, 1 + draw.Int63n(c.C+1), draw.Int63n(3) - 1}, []uint32{draw.Uint32(), 0})
		count(some, c, n, amount)
		if c.N == 1 {
			continue
		}
		m := drawnMail(draw, c, who, n)
		holdWords(t, c, who, n, nil, nil, m, spoilt(draw, m))
		_, code := hearWords(c, who, n, m)
		some["heard"+string(rune('0'+int(code)))]++
	}
	for _, x := range []struct {
		name string
		n    int
	}{{"answered", 500}, {"lacking", 100}, {"several", 300}, {"moved", 500}, {"goes on", 100}, {"busy", 500}, {"tick range", 100}, {"heard0", 3000}, {"heard6", 100}, {"heard7", 100}} {
		if some[x.name] < x.n {
			t.Errorf("too few of a kind were tried: %s: %d", x.name, some[x.name])
		}
	}
}

// count tells of what kinds the words of a node's steps are.
func count(some map[string]int, c api.Config, n api.Node, amount int64) {
	for who := range c.N {
		got, id, code := decWords(c, who, n, amount)
		if code == api.Busy {
			some["busy"]++
		}
		if code != api.OK {
			continue
		}
		if slices.Contains(got.Book.Outs, api.Outcome{Id: id}) {
			some["answered"]++
		}
		if slices.ContainsFunc(got.Book.Outs, func(o api.Outcome) bool { return o.Code == api.Lacking }) {
			some["lacking"]++
		}
		if len(got.Book.Outs) > 1 {
			some["several"]++
		}
		if !slices.Equal(got.Book.Rows[who].Out, n.Book.Rows[who].Out) {
			some["moved"]++
		}
		if n.Book.Audit.Look.Phase == 1 && got.Book.Audit.Look.Phase == 2 {
			some["goes on"]++
		}
		if _, _, code := tickWords(c, who, n, 0); code == api.Range {
			some["tick range"]++
		}
	}
}

// TestAnyNodes: P18.1, drawn nodes of which something is another one: whether they may be, and what is told of them.
func TestAnyNodes(t *testing.T) {
	draw := rand.New(rand.NewSource(182))
	some := map[bool]int{}
	for range 6000 {
		c := drawnConfig(draw)
		who := draw.Intn(c.N)
		n := drawnNode(draw, c, who, drawnRows(draw, c, rights.New(c), 9))
		v := []int64{-1, 0, 1, 2, 9, 16, mostAmount, mostTime, mostTime + 1, mostTime + 17, math.MinInt64, math.MaxInt64}[draw.Intn(12)]
		switch draw.Intn(10) {
		case 0:
			n.Wake.Ticks = v
		case 1:
			n.Wake.Next = v
		case 2:
			n.Wake.Ticks, n.Wake.Next = v, v+draw.Int63n(20)
		case 3:
			n.Wake.Asked = make([]int64, 60+draw.Intn(10))
		case 4:
			n.Book.Clock = v
		case 5:
			n.Book.Asks = int(v)
		case 6:
			n.Book.Notes[draw.Intn(c.N)].Clock = v
		case 7:
			who = draw.Intn(c.N+2) - 1
		case 8:
			c = drawnConfig(draw)
		}
		may := nodeMay(c, who, n)
		some[may]++
		holdMay(t, c, who, n, may)
		holdWords(t, c, who, n, []int64{drawnAmount(draw, c)}, []uint32{draw.Uint32()}, letter(c, 0, who, n, 9))
	}
	if some[true] < 1500 || some[false] < 1500 {
		t.Errorf("too few of a kind were tried: %v", some)
	}
}

// cluster is some nodes, the messages on their way, and what was told.
type cluster struct {
	c     api.Config
	nodes []api.Node
	mail  []api.Mail
	outs  map[api.Stamp]api.Code
	asked map[api.Stamp]int64
}

// step is something that befalls a cluster, each held against the words; messages are lost, come twice, and in any order.
func (x *cluster) step(t *testing.T, draw *rand.Rand) {
	t.Helper()
	who := draw.Intn(x.c.N)
	n, amount := x.nodes[who], drawnAmount(draw, x.c)
	var want api.Node
	code := api.OK
	switch kind := draw.Intn(12); {
	case kind == 0:
		want, code = incWords(x.c, who, n, amount)
		holdInc(t, x.c, who, n, amount, want, code)
	case kind <= 2:
		var id api.Stamp
		want, id, code = decWords(x.c, who, n, amount)
		holdDec(t, x.c, who, n, amount, want, id, code)
		if code == api.OK {
			x.asked[id] = amount
		}
	case kind <= 5 || len(x.mail) == 0:
		var l []api.Mail
		by := draw.Uint32()
		want, l, code = tickWords(x.c, who, n, by)
		holdTick(t, x.c, who, n, by, want, l, code)
		x.mail = append(x.mail, l...)
	default:
		at := draw.Intn(len(x.mail))
		m := x.mail[at]
		who, n = m.To, x.nodes[m.To]
		if kind == 6 {
			x.mail = slices.Delete(x.mail, at, at+1)
			return
		}
		want, code = hearWords(x.c, who, n, m)
		holdHear(t, x.c, who, n, m, want, code)
		if kind != 7 {
			x.mail = slices.Delete(x.mail, at, at+1)
		}
	}
	x.nodes[who] = want
	if code == api.OK && !sameBook(want.Book, n.Book) {
		x.told(t, want.Book.Outs)
	}
}

// told are outcomes: each of a request that there is, of which none was told yet.
func (x *cluster) told(t *testing.T, outs []api.Outcome) {
	t.Helper()
	for _, o := range outs {
		if was, ok := x.outs[o.Id]; ok || x.asked[o.Id] == 0 {
			t.Errorf("P18.2: outcome %+v, by %+v, of %d; told already: %t, %d", o, x.c, x.asked[o.Id], ok, was)
		}
		x.outs[o.Id] = o.Code
	}
}

// value is what there really is.
func (x *cluster) value() int64 {
	v := x.c.K
	for who, n := range x.nodes {
		v += n.Book.Rows[who].Inc - n.Book.Rows[who].Use
	}
	return v
}

// TestClusters: P18.2 to P18.5, drawn clusters, step by step by the words; nothing is overdrawn, and in the end nobody waits, if all goes well for long enough.
func TestClusters(t *testing.T) {
	draw := rand.New(rand.NewSource(183))
	some := map[api.Code]int{}
	for range 400 {
		c := drawnConfig(draw)
		// Of many, all is slow.
		c.N, c.Q, c.R, c.P = min(c.N, 5), min(c.Q, 3), min(c.R, 4), min(c.P, 4)
		x := cluster{c: c, outs: map[api.Stamp]api.Code{}, asked: map[api.Stamp]int64{}}
		for who := range c.N {
			n, code := node.New(c, who)
			if code != api.OK {
				t.Fatalf("P18.1: New(%+v, %d): %d", c, who, code)
			}
			x.nodes = append(x.nodes, n)
		}
		for range 80 + draw.Intn(80) {
			x.step(t, draw)
			if x.value() < 0 {
				t.Fatalf("P18.5: overdrawn: %+v", x)
			}
		}
		x.rest(t, draw)
		for _, code := range x.outs {
			some[code]++
		}
	}
	if some[api.OK] < 500 || some[api.Lacking] < 100 {
		t.Errorf("too few of a kind were tried: %v", some)
	}
}

// rest is when all goes well, as often as is enough for all that wait.
func (x *cluster) rest(t *testing.T, draw *rand.Rand) {
	t.Helper()
	for range (x.c.N*x.c.Q + 1) * (x.c.R + 16) {
		waits := 0
		for _, n := range x.nodes {
			waits += len(n.Book.Line)
		}
		if waits == 0 {
			return
		}
		for range x.c.P {
			for who := range x.nodes {
				n, l, code := node.Tick(x.c, who, x.nodes[who], draw.Uint32())
				if code != api.OK {
					t.Fatalf("P18.3: Tick(%+v, %d, %+v): %d", x.c, who, x.nodes[who], code)
				}
				if !sameBook(n.Book, x.nodes[who].Book) {
					x.told(t, n.Book.Outs)
				}
				x.nodes[who], x.mail = n, append(x.mail, l...)
			}
		}
		for _, m := range x.mail {
			n, code := node.Hear(x.c, m.To, x.nodes[m.To], m)
			if code != api.OK {
				t.Fatalf("P18.4: Hear(%+v, %+v, %+v): %d", x.c, x.nodes[m.To], m, code)
			}
			x.told(t, n.Book.Outs)
			x.nodes[m.To] = n
		}
		x.mail = nil
	}
	t.Errorf("P18.3: somebody waits still: %+v", x)
}

// TestAtOnce: P18.5, a request that comes where nobody waits, that its rights cover, and where no claim is known, is answered in that step.
func TestAtOnce(t *testing.T) {
	draw := rand.New(rand.NewSource(184))
	tried := 0
	for range 20000 {
		c := drawnConfig(draw)
		who := draw.Intn(c.N)
		n := drawnNode(draw, c, who, drawnRows(draw, c, rights.New(c), 12))
		n.Book.Line, n.Book.Asks, n.Book.Audit = nil, 0, api.Audit{}
		most := rights.Of(c, n.Book.Rows, who)
		if _, claimed := claim.Oldest(c, who, n.Book.Notes); claimed || most == 0 || n.Book.Clock == mostTime {
			continue
		}
		tried++
		for _, amount := range []int64{1, 1 + draw.Int63n(most), most} {
			got, id, code := node.Dec(c, who, n, amount)
			if code != api.OK || len(got.Book.Line) > 0 || !slices.Equal(got.Book.Outs, []api.Outcome{{Id: id}}) || rights.Of(c, got.Book.Rows, who) != most-amount {
				t.Errorf("P18.5: Dec(%+v, %d, %+v, %d): %+v, %v, %d", c, who, n, amount, got, id, code)
			}
		}
	}
	if tried < 3000 {
		t.Errorf("too few were tried: %d", tried)
	}
}

// roomy is the same list with room behind it, in which such elements stand.
func roomy[T any](l []T, x T) []T {
	return append(slices.Clone(l), x, x, x, x, x, x, x, x, x, x, x, x)[:len(l)]
}

// roomyRows are the same rows, with room behind each list.
func roomyRows(l []api.Row) []api.Row {
	l = slices.Clone(l)
	for i, r := range l {
		l[i].Out = roomy(r.Out, -7)
	}
	return roomy(l, of(-9, -9, -9))
}

// handed is a node of 1 that may be, all of whose lists have elements and spare room, none of it zero.
func handed(c api.Config) api.Node {
	n := waiting(c, 1, 500)
	k := &n.Book
	k.Rows[0].Inc, k.Rows[1].Use, k.Rows[1].Out[0], k.Asks = 7, 8, 9, c.R
	k.Audit = run(k.Rows, 1)
	k.Notes[0] = api.Note{Clock: heard, Head: ask(30, 0, 4), Asks: 1, Look: api.Look{Try: 5, Phase: 2}}
	k.Rows, k.Notes = roomyRows(k.Rows), roomy(k.Notes, api.Note{Clock: -9, Head: ask(-9, -9, -9)})
	k.Line, k.Outs = roomy(k.Line, ask(-9, -9, -9)), roomy(k.Outs, end(-9, -9, -9))
	k.Audit.Told, k.Audit.Use, k.Audit.Inc = roomy(k.Audit.Told, true), roomy(k.Audit.Use, -9), roomy(k.Audit.Inc, -9)
	n.Wake.Asked = roomy([]int64{3, 0, 9}, -9)
	return n
}

// handedMail is a message that may be, from 0 to 1, which heard of the look of handed; all of its lists have spare room.
func handedMail(c api.Config, n api.Node) api.Mail {
	m := letter(c, 0, 1, n, heard+1)
	m.Head, m.Look, m.Echo[1] = ask(31, 0, 300), api.Look{Try: 6, Phase: 1}, n.Book.Audit.Look
	m.Rows, m.Echo = roomyRows(m.Rows), roomy(m.Echo, api.Look{Try: -9, Phase: -9})
	return m
}

// overwrite writes over a list, its spare room too.
func overwrite[T any](l []T, x T) {
	l = l[:cap(l)]
	for i := range l {
		l[i] = x
	}
}

// spoilRows writes over all that rows hold, their spare room too.
func spoilRows(l []api.Row) {
	for _, r := range l[:cap(l)] {
		overwrite(r.Out, -5)
	}
	overwrite(l, of(-5, -5, -5))
}

// spoil writes over all that a node holds, its spare room too.
func spoil(n api.Node) {
	k := n.Book
	spoilRows(k.Rows)
	overwrite(k.Line, ask(-5, -5, -5))
	overwrite(k.Outs, end(-5, -5, -5))
	overwrite(k.Notes, api.Note{Clock: -5, Head: ask(-5, -5, -5), Asks: -5, Look: api.Look{Try: -5, Phase: -5}})
	overwrite(k.Audit.Told, true)
	overwrite(k.Audit.Use, -5)
	overwrite(k.Audit.Inc, -5)
	overwrite(n.Wake.Asked, -5)
}

// spoilMail writes over all that a message holds, its spare room too.
func spoilMail(m api.Mail) {
	spoilRows(m.Rows)
	overwrite(m.Echo, api.Look{Try: -5, Phase: -5})
}

// answer is what a call answers, and its code.
type answer struct {
	node api.Node
	mail []api.Mail
	code api.Code
}

// sameAnswer: are two answers the same?
func sameAnswer(a, b answer) bool {
	return same(a.node, b.node) && slices.EqualFunc(a.mail, b.mail, sameMail) && a.code == b.code
}

// calls are ones of each kind, with each code of some; of handed, or a node like it, and a message.
func calls(c api.Config) []func(n api.Node, m api.Mail) answer {
	inc := func(amount int64) func(n api.Node, m api.Mail) answer {
		return func(n api.Node, m api.Mail) (a answer) {
			a.node, a.code = node.Inc(c, 1, n, amount)
			return a
		}
	}
	dec := func(amount int64) func(n api.Node, m api.Mail) answer {
		return func(n api.Node, m api.Mail) (a answer) {
			a.node, _, a.code = node.Dec(c, 1, n, amount)
			return a
		}
	}
	tick := func(n api.Node, m api.Mail) (a answer) {
		a.node, a.mail, a.code = node.Tick(c, 1, n, 7)
		return a
	}
	hear := func(who int) func(n api.Node, m api.Mail) answer {
		return func(n api.Node, m api.Mail) (a answer) {
			a.node, a.code = node.Hear(c, who, n, m)
			return a
		}
	}
	back := func(n api.Node, m api.Mail) answer { return answer{node: node.Back(n.Book)} }
	return []func(n api.Node, m api.Mail) answer{inc(5), inc(0), inc(1000), dec(5), dec(0), tick, hear(1), hear(0), back}
}

// TestStays: rules 3 and 4, the nodes and messages that came in stay as they were, their spare room too; what was answered has memory of its own: it doesn't change with them, nor with other answers.
func TestStays(t *testing.T) {
	for _, n := range []int{2, 3, 16} {
		c := config(n)
		for which, change := range []func(n *api.Node){
			func(n *api.Node) {},
			func(n *api.Node) { n.Book.Line[0].Amount = 1 },
			func(n *api.Node) { n.Book.Line, n.Book.Asks, n.Book.Audit = n.Book.Line[:0], 0, api.Audit{} },
			func(n *api.Node) { n.Book.Notes[0].Asks = c.R },
			func(n *api.Node) { n.Wake.Next = 9 },
			func(n *api.Node) { n.Book.Clock = mostTime },
			func(n *api.Node) { n.Wake.Ticks = -1 },
			func(n *api.Node) { n.Book.Audit.Told = nil },
		} {
			for _, call := range calls(c) {
				k := handed(c)
				change(&k)
				m := handedMail(c, k)
				kept, letter := room(k), mailRoom(m)
				want := call(k, m)
				first := call(k, m)
				for range 2 {
					again := call(k, m)
					if !sameAnswer(again, want) {
						t.Fatalf("rule 4: node %d: %+v, want %+v", which, again, want)
					}
					spoil(again.node)
					for _, x := range again.mail {
						spoilMail(x)
					}
					if !reflect.DeepEqual(room(k), kept) || !reflect.DeepEqual(mailRoom(m), letter) {
						t.Fatalf("rule 3: node %d: what came in is %+v, %+v now", which, k, m)
					}
				}
				spoil(k)
				spoilMail(m)
				if !sameAnswer(first, want) {
					t.Errorf("rule 3: node %d: it was %+v, and is %+v now", which, want, first)
				}
			}
		}
	}
}

// TestNewStays: rule 3, a new node doesn't change with what is done to another one.
func TestNewStays(t *testing.T) {
	c := config(3)
	want, _ := node.New(c, 1)
	want = copied(want)
	first, _ := node.New(c, 1)
	second, _ := node.New(c, 1)
	spoil(second)
	if !same(first, want) {
		t.Errorf("rule 3: New: %+v, want %+v", first, want)
	}
}

// TestListsApart: no two lists of one answer share memory.
func TestListsApart(t *testing.T) {
	c := config(4)
	for _, call := range calls(c) {
		k := handed(c)
		a := call(k, handedMail(c, k))
		rows := [][]api.Row{a.node.Book.Rows}
		for _, m := range a.mail {
			rows = append(rows, m.Rows)
		}
		// Each list of numbers, written over with what no other one has.
		var lists [][]int64
		for _, l := range rows {
			for _, r := range l {
				lists = append(lists, r.Out)
			}
		}
		lists = append(lists, a.node.Book.Audit.Use, a.node.Book.Audit.Inc, a.node.Wake.Asked)
		for i, l := range lists {
			overwrite(l, 1000+int64(i))
		}
		for i, l := range lists {
			if slices.ContainsFunc(l, func(v int64) bool { return v != 1000+int64(i) }) {
				t.Errorf("rule 7: a list shares memory with another one: %+v", a)
			}
		}
		for i, l := range rows {
			for j := range l {
				l[j].Inc = int64(100*i + j)
			}
		}
		for i, l := range rows {
			for j := range l {
				if l[j].Inc != int64(100*i+j) {
					t.Errorf("rule 7: rows share memory with others: %+v", a)
				}
			}
		}
		for i, m := range a.mail {
			overwrite(m.Echo, api.Look{Try: int64(i)})
		}
		for i, m := range a.mail {
			if m.Echo[0].Try != int64(i) {
				t.Errorf("rule 7: echoes share memory with others: %+v", a)
			}
		}
	}
}
