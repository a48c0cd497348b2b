package city_test

import (
	"bytes"
	"math"
	"slices"
	"testing"

	"coffers/api"
	"coffers/book"
	"coffers/city"
	"coffers/claim"
	"coffers/frame"
	"coffers/node"
	"coffers/rights"
	"coffers/store"
	"coffers/tape"
)

// How many messages, and acts, there may be; and the greatest time.
const (
	mostMail = 400
	mostActs = 400
	mostTime = 1 << 50
)

// faults are what may befall a disk, and numbers that are none of it.
var faults = []int{0, 1, 2, 3, -1, -2, math.MinInt, math.MaxInt}

// farWhos are no replicas of n.
func farWhos(n int) []int {
	return []int{-1, -2, -n - 1, -1 << 32, n, n + 1, n + 16, n + 1<<32, 1 << 62, math.MinInt, math.MinInt + 1, math.MaxInt}
}

// config is one of n replicas, each of which has the share 10.
func config(n int) api.Config {
	return api.Config{N: n, Q: 2, R: 1, P: 1, K: int64(10 * n), C: 5}
}

// wrongConfigs are some that may not be, of 2 replicas where they can: one thing is wrong with each.
func wrongConfigs() []api.Config {
	list := []api.Config{{}}
	for _, spoil := range []func(c *api.Config){
		func(c *api.Config) { c.N = 0 },
		func(c *api.Config) { c.N = -1 },
		func(c *api.Config) { c.N = 17 },
		func(c *api.Config) { c.N = 1 << 40 },
		func(c *api.Config) { c.N = math.MinInt },
		func(c *api.Config) { c.N = math.MaxInt },
		func(c *api.Config) { c.Q = 0 },
		func(c *api.Config) { c.Q = 9 },
		func(c *api.Config) { c.R = -1 },
		func(c *api.Config) { c.R = 9 },
		func(c *api.Config) { c.P = 0 },
		func(c *api.Config) { c.P = 17 },
		func(c *api.Config) { c.K = -1 },
		func(c *api.Config) { c.K = 1<<40 + 1 },
		func(c *api.Config) { c.C = -1 },
		func(c *api.Config) { c.C = 1 << 40 },
	} {
		c := config(2)
		spoil(&c)
		list = append(list, c)
	}
	return list
}

// started is the city at first.
func started(t *testing.T, c api.Config) api.City {
	t.Helper()
	x, code := city.New(c)
	if code != api.OK {
		t.Fatalf("P19.1: New(%+v): %d", c, code)
	}
	return x
}

// behind is the city behind some acts, each of which tells OK.
func behind(t *testing.T, c api.Config, x api.City, acts ...api.Act) api.City {
	t.Helper()
	for _, a := range acts {
		var m api.Mark
		if x, m = city.Do(c, x, a); m.Code != api.OK {
			t.Fatalf("P19.2: Do(%+v, .., %+v): %+v", c, a, m)
		}
	}
	return x
}

// with is the same city, in memory of its own, with something done to it.
func with(x api.City, changes ...func(x *api.City)) api.City {
	x = copied(x)
	for _, change := range changes {
		change(&x)
	}
	return x
}

// down is the same city, in which these sites aren't Up.
func down(x api.City, whos ...int) api.City {
	return with(x, func(x *api.City) {
		for _, who := range whos {
			x.Sites[who].Up, x.Sites[who].Node = false, api.Node{}
		}
	})
}

// letter is a message that may be, from one to another one; its clock tells it from others.
func letter(c api.Config, from, to int, clock int64) api.Mail {
	return api.Mail{From: from, To: to, Clock: clock, Rows: rights.New(c), Echo: make([]api.Look, c.N)}
}

// letters are so many messages that may be, no two alike, to all in turn.
func letters(c api.Config, n int) (l []api.Mail) {
	for i := range n {
		l = append(l, letter(c, i%c.N, (i+1)%c.N, int64(1+i)))
	}
	return l
}

// posted is the same city, in which just these messages are on their way.
func posted(x api.City, l []api.Mail) api.City {
	return with(x, func(x *api.City) { x.Mail = copied(l) })
}

// framed are frames of some bytes, one behind the other.
func framed(payloads ...[]byte) (out []byte) {
	for _, p := range payloads {
		out = frame.Put(out, p)
	}
	return out
}

// filled is a frame that has just so many bytes in all.
func filled(t *testing.T, size int) []byte {
	t.Helper()
	for n := max(0, size-8); n < size; n++ {
		if frame.Size(n) == size {
			return framed(bytes.Repeat([]byte{'f'}, n))
		}
	}
	t.Fatalf("the test's own frame: none has %d bytes", size)
	return nil
}

// taped is the same city, in which a site's tape has just these bytes, which last.
func taped(x api.City, who int, b []byte) api.City {
	return with(x, func(x *api.City) { x.Sites[who].Tape = api.Tape{Main: api.Area{Sure: slices.Clone(b)}} })
}

// outcome is one, written short.
func outcome(time int64, who int, code api.Code) api.Outcome {
	return api.Outcome{Id: api.Stamp{Time: time, Who: who}, Code: code}
}

// mayWords: the words of a city that may be.
func mayWords(c api.Config, x api.City) bool {
	if !rights.May(c) || len(x.Sites) != c.N || len(x.Mail) > mostMail {
		return false
	}
	for who, s := range x.Sites {
		may := !s.Up && same(s.Node, api.Node{}) || s.Up && node.May(c, who, s.Node)
		size := len(tape.Bytes(s.Tape.Main)) + len(tape.Bytes(s.Tape.Spare))
		if !may || size > book.Bound(c) || !same(store.Open(s.Tape), s.Tape) {
			return false
		}
	}
	return !slices.ContainsFunc(x.Mail, func(m api.Mail) bool { return !claim.MayMail(c, m) })
}

// stepped is what a site's node did: the node behind that, what it wrote, the stamp of a request, and the code.
type stepped struct {
	node api.Node
	mail []api.Mail
	id   api.Stamp
	code api.Code
}

// stepWords: the words of a site's step, of a city in memory of its own.
func stepWords(c api.Config, x api.City, who int, a api.Act, m api.Mark, by stepped) (api.City, api.Mark) {
	s := &x.Sites[who]
	m.Code = by.code
	if by.code != api.OK {
		return x, m
	}
	bytesNow := book.Put(by.node.Book)
	if bytes.Equal(bytesNow, book.Put(s.Node.Book)) {
		s.Node = by.node
		return x, m
	}
	if a.Fault == 1 {
		m.Code = api.Unavailable
		return x, m
	}
	if a.Fault == 2 {
		torn, code := store.Torn(s.Tape, bytesNow, book.Bound(c), a.Keep)
		*s = api.Site{Tape: store.Open(torn)}
		m.Code = max(code, api.Down)
		return x, m
	}
	s.Tape, m.Code = store.Save(s.Tape, bytesNow, book.Bound(c))
	s.Node, m.Id, m.Outs = by.node, by.id, by.node.Book.Outs
	for _, l := range by.mail {
		if len(x.Mail) < mostMail {
			x.Mail = append(x.Mail, l)
		}
	}
	return x, m
}

// siteWords: the words of an act at a site that there is, of a city in memory of its own.
func siteWords(c api.Config, x api.City, a api.Act, m api.Mark) (api.City, api.Mark) {
	who, s := a.Who, &x.Sites[a.Who]
	if a.Kind == api.DoRestart {
		if s.Up {
			return x, m
		}
		if b, has := store.Has(s.Tape); !has {
			s.Node, m.Code = node.New(c, who)
		} else if k, ok := book.Take(c, who, b); ok {
			s.Node, m.Code = node.Back(k), api.OK
		} else {
			m.Code = api.Form
			return x, m
		}
		s.Up, m.Outs = true, s.Node.Book.Outs
		return x, m
	}
	if a.Kind >= api.DoInc && a.Kind <= api.DoCrash && !s.Up {
		m.Code = api.Down
		return x, m
	}
	var by stepped
	switch a.Kind {
	case api.DoInc:
		by.node, by.code = node.Inc(c, who, s.Node, a.Amount)
	case api.DoDec:
		by.node, by.id, by.code = node.Dec(c, who, s.Node, a.Amount)
	case api.DoTick:
		by.node, by.mail, by.code = node.Tick(c, who, s.Node, a.Draw)
	case api.DoRead:
		m.Value, m.Code = rights.Value(c, s.Node.Book.Rows), api.OK
		return x, m
	case api.DoCrash:
		*s = api.Site{Tape: tape.Lose(s.Tape, 0)}
		m.Code = api.OK
		return x, m
	default:
		return x, m
	}
	return stepWords(c, x, who, a, m, by)
}

// doWords: the words of Do.
func doWords(c api.Config, x api.City, a api.Act) (api.City, api.Mark) {
	m := api.Mark{Kind: a.Kind, Who: a.Who, Code: api.Arg}
	if !mayWords(c, x) {
		return x, m
	}
	x = copied(x)
	if a.Kind != api.DoDeliver && a.Kind != api.DoDrop && a.Kind != api.DoTwice {
		if a.Who < 0 || a.Who >= c.N {
			return x, m
		}
		return siteWords(c, x, a, m)
	}
	if a.At < 0 {
		return x, m
	}
	if len(x.Mail) == 0 {
		m.Code = api.None
		return x, m
	}
	at := a.At % len(x.Mail)
	l := x.Mail[at]
	m.Who, m.Code = l.To, api.OK
	if a.Kind == api.DoTwice {
		if len(x.Mail) == mostMail {
			m.Code = api.Range
			return x, m
		}
		x.Mail = append(x.Mail, copied(l))
		return x, m
	}
	x.Mail = append(slices.Clone(x.Mail[:at]), x.Mail[at+1:]...)
	if a.Kind == api.DoDrop {
		return x, m
	}
	if !x.Sites[l.To].Up {
		m.Code = api.Down
		return x, m
	}
	var by stepped
	by.node, by.code = node.Hear(c, l.To, x.Sites[l.To].Node, l)
	return stepWords(c, x, l.To, a, m, by)
}

// holdMay: May(c, x) answers this.
func holdMay(t *testing.T, c api.Config, x api.City, want bool) {
	t.Helper()
	if got := city.May(c, x); got != want {
		t.Errorf("P19.1: May(%+v, %+v): %t, want %t", c, x, got, want)
	}
}

// holdDo: Do(c, x, a) answers this, and x stays as it was.
func holdDo(t *testing.T, c api.Config, x api.City, a api.Act, want api.City, mark api.Mark) {
	t.Helper()
	was := memory(x)
	got, m := city.Do(c, x, a)
	if !same(m, mark) {
		t.Errorf("P19.2: Do(%+v, .., %+v): %+v, want %+v", c, a, m, mark)
	}
	if !same(got, want) {
		t.Errorf("P19.2: Do(%+v, %+v, %+v): %+v, want %+v", c, x, a, got, want)
	}
	if !slices.Equal(memory(x), was) {
		t.Errorf("rule 3: Do(%+v, .., %+v): what came in is %+v now", c, a, x)
	}
}

// holdWords: Do(c, x, a) answers what the words say.
func holdWords(t *testing.T, c api.Config, x api.City, a api.Act) (api.City, api.Mark) {
	t.Helper()
	want, mark := doWords(c, x, a)
	holdDo(t, c, x, a, want, mark)
	return want, mark
}
