package claim_test

import (
	"math"
	"math/rand"
	"reflect"
	"slices"
	"testing"

	"coffers/api"
	"coffers/claim"
	"coffers/rights"
)

// The greatest amount and the greatest time that may be.
const (
	mostAmount = 1 << 40
	mostTime   = 1 << 50
)

// badTimes and badAmounts are such as may not be, 0 aside: the ones next to those that may be, the ends of 64 bits, and such as would come out as another one in fewer bits.
var (
	badTimes   = []int64{-1, -2, mostTime + 1, mostTime + 2, 2 * mostTime, -mostTime, -1 << 32, 1 << 62, math.MinInt64, math.MinInt64 + 1, math.MaxInt64 - 1, math.MaxInt64}
	badAmounts = []int64{-1, -2, mostAmount + 1, mostAmount + 2, 2 * mostAmount, mostTime, -mostAmount, -1 << 32, 1 << 62, math.MinInt64, math.MaxInt64}
)

// farWhos are no replicas of n, whatever n is, or n itself and the ones about it.
func farWhos(n int) []int {
	return []int{-1, -2, -n, -1 << 32, n, n + 1, n + 16, n + 1<<32, 1 << 62, math.MinInt, math.MinInt + n, math.MaxInt}
}

// config is one of n replicas, after r asks of which one claims.
func config(n, r int) api.Config { return api.Config{N: n, Q: 1, R: r, P: 1, K: 7, C: 5} }

// wrongConfigs are some that may not be, of 3 replicas where they can: one thing is wrong with each.
func wrongConfigs() []api.Config {
	list := []api.Config{{}}
	for _, spoil := range []func(c *api.Config){
		func(c *api.Config) { c.N = 0 },
		func(c *api.Config) { c.N = -3 },
		func(c *api.Config) { c.N = 17 },
		func(c *api.Config) { c.N = math.MinInt },
		func(c *api.Config) { c.N = math.MaxInt },
		func(c *api.Config) { c.Q = 0 },
		func(c *api.Config) { c.Q = 9 },
		func(c *api.Config) { c.R = -1 },
		func(c *api.Config) { c.R = 9 },
		func(c *api.Config) { c.R = math.MinInt },
		func(c *api.Config) { c.P = 0 },
		func(c *api.Config) { c.P = 17 },
		func(c *api.Config) { c.K = -1 },
		func(c *api.Config) { c.K = mostAmount + 1 },
		func(c *api.Config) { c.C = -1 },
		func(c *api.Config) { c.C = mostAmount },
		func(c *api.Config) { c.C = math.MaxInt64 },
	} {
		c := config(3, 2)
		spoil(&c)
		list = append(list, c)
	}
	return list
}

// ask is a request, written short.
func ask(time int64, who int, amount int64) api.Request {
	return api.Request{Id: api.Stamp{Time: time, Who: who}, Amount: amount}
}

// full is a note of who, in which nothing is none.
func full(who int) api.Note {
	return api.Note{Clock: 50, Head: ask(10, who, 5), Asks: 1, Look: api.Look{Try: 7, Phase: 1}}
}

// known are the notes of who in which nothing of others is none.
func known(c api.Config, who int) []api.Note {
	l := make([]api.Note, c.N)
	for of := range l {
		if of != who {
			l[of] = full(of)
		}
	}
	return l
}

// claims are the notes of who by which each other one claims, or not, as of what time it says (0: no claim).
func claims(c api.Config, who int, times ...int64) []api.Note {
	l := make([]api.Note, c.N)
	for of, time := range times {
		if of != who && time > 0 {
			l[of] = api.Note{Clock: 1, Head: ask(time, of, 1), Asks: c.R}
		}
	}
	return l
}

// with is the same list, in memory of its own, with another element in one place.
func with[T any](l []T, at int, x T) []T {
	l = slices.Clone(l)
	l[at] = x
	return l
}

// letter is a message in which nothing is none, but the look of the sender in its echo.
func letter(c api.Config, from, to int) api.Mail {
	n := full(from)
	m := api.Mail{From: from, To: to, Clock: n.Clock, Rows: rights.New(c), Head: n.Head, Asks: n.Asks, Look: n.Look}
	for of := range c.N {
		k := api.Look{Try: int64(of + 1), Phase: 1 + of%2}
		if of == from {
			k = api.Look{}
		}
		m.Echo = append(m.Echo, k)
	}
	return m
}

// lookMay, headMay, noteMay: the words of a look, of a head, and of a note of who.
func lookMay(k api.Look) bool {
	if k.Try == 0 && k.Phase == 0 {
		return true
	}
	return k.Try >= 1 && k.Try <= mostTime && k.Phase >= 1 && k.Phase <= 2
}

func headMay(h api.Request, who int) bool {
	if h.Id.Time == 0 && h.Id.Who == 0 && h.Amount == 0 {
		return true
	}
	return h.Id.Time >= 1 && h.Id.Time <= mostTime && h.Id.Who == who && h.Amount >= 1 && h.Amount <= mostAmount
}

func noteMay(c api.Config, who int, n api.Note) bool {
	return n.Clock >= 0 && n.Clock <= mostTime && headMay(n.Head, who) && n.Asks >= 0 && n.Asks <= c.R && lookMay(n.Look)
}

// notesMay: the words of a replica's notes, by a config that may be.
func notesMay(c api.Config, who int, l []api.Note) bool {
	if who < 0 || who >= c.N || len(l) != c.N {
		return false
	}
	for of, n := range l {
		if of == who && n != (api.Note{}) || !noteMay(c, of, n) {
			return false
		}
	}
	return true
}

// mailMay: the words of a message, by a config that may be.
func mailMay(c api.Config, m api.Mail) bool {
	if m.From < 0 || m.From >= c.N || m.To < 0 || m.To >= c.N || m.From == m.To || m.Clock < 1 || m.Clock > mostTime {
		return false
	}
	if !rights.Right(c, m.Rows) || !headMay(m.Head, m.From) || m.Asks < 0 || m.Asks > c.R || !lookMay(m.Look) || len(m.Echo) != c.N {
		return false
	}
	for of, k := range m.Echo {
		if !lookMay(k) || of == m.From && k != (api.Look{}) {
			return false
		}
	}
	return true
}

// heard: the words of Hear, by a config that may be.
func heard(c api.Config, who int, l []api.Note, m api.Mail) ([]api.Note, api.Code) {
	if !notesMay(c, who, l) || !mailMay(c, m) || m.To != who {
		return nil, api.Arg
	}
	l = slices.Clone(l)
	if l[m.From].Clock < m.Clock {
		l[m.From] = api.Note{Clock: m.Clock, Head: m.Head, Asks: m.Asks, Look: m.Look}
	}
	return l, api.OK
}

// olderThan: the words of older.
func olderThan(a, b api.Stamp) bool { return a.Time < b.Time || a.Time == b.Time && a.Who < b.Who }

// oldest: the words of Oldest, by a config that may be: the claim than which no other one is older.
func oldest(c api.Config, who int, l []api.Note) (api.Request, bool) {
	if !notesMay(c, who, l) {
		return api.Request{}, false
	}
	for _, a := range l {
		first := a.Head.Amount > 0 && a.Asks == c.R
		for _, b := range l {
			if b.Head.Amount > 0 && b.Asks == c.R && olderThan(b.Head.Id, a.Head.Id) {
				first = false
			}
		}
		if first {
			return a.Head, true
		}
	}
	return api.Request{}, false
}

// holdMay: May answers this.
func holdMay(t *testing.T, c api.Config, who int, l []api.Note, want bool) {
	t.Helper()
	if got := claim.May(c, who, l); got != want {
		t.Errorf("P14.1: May(%+v, %d, %+v): %t, want %t", c, who, l, got, want)
	}
}

// holdMail: MayMail answers this.
func holdMail(t *testing.T, c api.Config, m api.Mail, want bool) {
	t.Helper()
	if got := claim.MayMail(c, m); got != want {
		t.Errorf("P14.1: MayMail(%+v, %+v): %t, want %t", c, m, got, want)
	}
}

// holdOn: On answers this.
func holdOn(t *testing.T, c api.Config, n api.Note, want bool) {
	t.Helper()
	if got := claim.On(c, n); got != want {
		t.Errorf("P14.1: On(%+v, %+v): %t, want %t", c, n, got, want)
	}
}

// holdHear: Hear answers this.
func holdHear(t *testing.T, c api.Config, who int, l []api.Note, m api.Mail, want []api.Note, code api.Code) {
	t.Helper()
	if got, e := claim.Hear(c, who, l, m); !slices.Equal(got, want) || e != code {
		t.Errorf("P14.2: Hear(%+v, %d, %+v, %+v): %+v, %d, want %+v, %d", c, who, l, m, got, e, want, code)
	}
}

// holdOldest: Oldest answers this.
func holdOldest(t *testing.T, c api.Config, who int, l []api.Note, want api.Request, ok bool) {
	t.Helper()
	if got, is := claim.Oldest(c, who, l); got != want || is != ok {
		t.Errorf("P14.3: Oldest(%+v, %d, %+v): %v, %t, want %v, %t", c, who, l, got, is, want, ok)
	}
}

// holdHeld: Held answers this.
func holdHeld(t *testing.T, c api.Config, who int, l []api.Note, id api.Stamp, want bool) {
	t.Helper()
	if got := claim.Held(c, who, l, id); got != want {
		t.Errorf("P14.3: Held(%+v, %d, %+v, %v): %t, want %t", c, who, l, id, got, want)
	}
}

// holdCalls: Calls answers this.
func holdCalls(t *testing.T, c api.Config, who int, l []api.Note, head api.Request, want int, ok bool) {
	t.Helper()
	if got, is := claim.Calls(c, who, l, head); got != want || is != ok {
		t.Errorf("P14.3: Calls(%+v, %d, %+v, %v): %d, %t, want %d, %t", c, who, l, head, got, is, want, ok)
	}
}

// holdNobody: by these notes nobody claims, whatever is asked.
func holdNobody(t *testing.T, c api.Config, who int, l []api.Note) {
	t.Helper()
	holdOldest(t, c, who, l, api.Request{}, false)
	for _, id := range []api.Stamp{{}, {Time: 10, Who: who}, {Time: mostTime, Who: 15}, {Time: math.MaxInt64, Who: math.MaxInt}, {Time: math.MinInt64, Who: math.MinInt}} {
		holdHeld(t, c, who, l, id, false)
		for _, amount := range []int64{0, 1, 5, -1, math.MaxInt64} {
			holdCalls(t, c, who, l, api.Request{Id: id, Amount: amount}, 0, false)
		}
	}
}

// TestExample: P14.1 and P14.3, R 1: a note with a Head of 5 and Asks 1 is a claim, with Asks 0 not.
func TestExample(t *testing.T) {
	c := config(2, 1)
	asked := api.Note{Clock: 3, Head: ask(2, 1, 5), Asks: 1}
	holdOn(t, c, asked, true)
	holdOldest(t, c, 0, []api.Note{{}, asked}, asked.Head, true)
	asked.Asks = 0
	holdOn(t, c, asked, false)
	holdNobody(t, c, 0, []api.Note{{}, asked})
}

// trial is something done to a note, and whether it may be behind that.
type trial struct {
	note api.Note
	may  bool
}

// trials are notes of who: each is nothing, or full, but for one field at an edge, below it, or above.
func trials(c api.Config, who int) []trial {
	var list []trial
	add := func(may bool, change func(n *api.Note)) {
		for _, n := range []api.Note{{}, full(who), {Clock: mostTime, Head: ask(mostTime, who, mostAmount), Asks: c.R, Look: api.Look{Try: mostTime, Phase: 2}}} {
			n.Asks = min(n.Asks, c.R)
			change(&n)
			list = append(list, trial{n, may})
		}
	}
	add(true, func(n *api.Note) {})
	for _, clock := range []int64{0, 1, 2, mostTime - 1, mostTime} {
		add(true, func(n *api.Note) { n.Clock = clock })
	}
	for _, clock := range badTimes {
		add(false, func(n *api.Note) { n.Clock = clock })
	}
	for asks := range c.R + 1 {
		add(true, func(n *api.Note) { n.Asks = asks })
	}
	for _, asks := range []int{-1, -2, -c.R - 1, c.R + 1, c.R + 2, 9, 1 << 32, 1 << 62, math.MinInt, math.MaxInt} {
		add(false, func(n *api.Note) { n.Asks = asks })
	}
	for _, h := range goodHeads(who) {
		add(true, func(n *api.Note) { n.Head = h })
	}
	for _, h := range badHeads(c, who) {
		add(false, func(n *api.Note) { n.Head = h })
	}
	for _, k := range goodLooks() {
		add(true, func(n *api.Note) { n.Look = k })
	}
	for _, k := range badLooks() {
		add(false, func(n *api.Note) { n.Look = k })
	}
	return list
}

// goodHeads are such as who may have.
func goodHeads(who int) []api.Request {
	list := []api.Request{{}}
	for _, time := range []int64{1, 2, mostTime - 1, mostTime} {
		for _, amount := range []int64{1, 2, mostAmount - 1, mostAmount} {
			list = append(list, ask(time, who, amount))
		}
	}
	return list
}

// badHeads are such as who may not have: one lacks just one thing of the zero request, or just one thing is wrong with it.
func badHeads(c api.Config, who int) []api.Request {
	list := []api.Request{ask(1, 0, 0), ask(0, 1, 0), ask(0, who, 1), ask(0, 0, 1), ask(7, who, 0), ask(0, who, 7), ask(0, -1, 0), ask(-1, 0, 0), ask(0, 0, -1), ask(mostTime, who, 0)}
	for _, time := range badTimes {
		list = append(list, ask(time, who, 1), ask(time, 0, 0))
	}
	for _, amount := range badAmounts {
		list = append(list, ask(1, who, amount), ask(0, 0, amount))
	}
	for other := range c.N {
		if other != who {
			list = append(list, ask(1, other, 1), ask(mostTime, other, mostAmount))
		}
	}
	for _, far := range farWhos(c.N) {
		if far < 0 || far >= c.N {
			list = append(list, ask(1, far, 1), ask(0, far, 0))
		}
	}
	return list
}

// goodLooks are none, and such as may be.
func goodLooks() []api.Look {
	list := []api.Look{{}}
	for _, try := range []int64{1, 2, mostTime - 1, mostTime} {
		list = append(list, api.Look{Try: try, Phase: 1}, api.Look{Try: try, Phase: 2})
	}
	return list
}

// badLooks are such as may not be: one lacks just one thing of the zero look, or just one thing is wrong with it.
func badLooks() []api.Look {
	list := []api.Look{{Phase: 1}, {Phase: 2}, {Phase: 3}, {Phase: -1}}
	for _, phase := range []int{0, 3, 4, -1, -2, 1 << 32, 1<<32 + 1, math.MinInt, math.MinInt + 1, math.MaxInt} {
		list = append(list, api.Look{Try: 1, Phase: phase}, api.Look{Try: mostTime, Phase: phase})
	}
	for _, try := range badTimes {
		list = append(list, api.Look{Try: try}, api.Look{Try: try, Phase: 1}, api.Look{Try: try, Phase: 2})
	}
	return list
}

// TestMayNotes: P14.1, each field of a note at its edges, below and above them, in each place but one's own, for R of 0 and more, and N of 2 and more.
func TestMayNotes(t *testing.T) {
	for _, n := range []int{2, 3, 16} {
		for _, r := range []int{0, 1, 2, 8} {
			c := config(n, r)
			for _, who := range []int{0, 1, n - 1} {
				for of := range n {
					if of == who {
						continue
					}
					for _, x := range trials(c, of) {
						holdMay(t, c, who, with(make([]api.Note, n), of, x.note), x.may)
					}
				}
			}
		}
	}
}

// TestMayOwn: P14.1, one's own note is the zero one, and any other one may not be, however small.
func TestMayOwn(t *testing.T) {
	for _, n := range []int{1, 2, 3, 16} {
		c := config(n, 1)
		for who := range n {
			holdMay(t, c, who, known(c, who), true)
			holdMay(t, c, who, make([]api.Note, n), true)
			for _, own := range []api.Note{full(who), {Clock: 1}, {Clock: mostTime}, {Head: ask(1, who, 1)}, {Asks: 1}, {Look: api.Look{Try: 1, Phase: 1}}, {Clock: -1}, {Asks: -1}} {
				holdMay(t, c, who, with(known(c, who), who, own), false)
				holdMay(t, c, who, with(make([]api.Note, n), who, own), false)
			}
		}
	}
}

// TestMayHowMany: P14.1, as many notes as replicas, and no other number of them, for each N that may be.
func TestMayHowMany(t *testing.T) {
	for n := 1; n <= 16; n++ {
		for have := range 20 {
			for _, who := range []int{0, n / 2, n - 1} {
				holdMay(t, config(n, 1), who, make([]api.Note, have), have == n)
			}
		}
		holdMay(t, config(n, 1), 0, nil, false)
		holdMay(t, config(n, 1), 0, make([]api.Note, 3000), false)
		// The room behind a list plays no part.
		holdMay(t, config(n, 1), 0, make([]api.Note, n+9)[:n], true)
		holdMay(t, config(n, 1), 0, make([]api.Note, n+9)[:n-1], false)
	}
}

// TestMayOrder: P14.1, notes that stand in another one's place may not be.
func TestMayOrder(t *testing.T) {
	for n := 3; n <= 16; n++ {
		c := config(n, 1)
		for who := range n {
			l := known(c, who)
			for a := range n {
				for b := range a {
					turned := with(with(l, a, l[b]), b, l[a])
					holdMay(t, c, who, turned, false)
				}
			}
		}
		l := known(c, 0)
		slices.Reverse(l)
		holdMay(t, c, 0, l, false)
		holdMay(t, c, n-1, l, false)
	}
}

// TestMayWho: P14.1, each replica's notes are its own ones alone; below 0 and above the last one is none.
func TestMayWho(t *testing.T) {
	for n := 1; n <= 16; n++ {
		c := config(n, 1)
		for who := range n {
			for of := range n {
				holdMay(t, c, who, known(c, of), who == of)
			}
		}
		for _, who := range farWhos(n) {
			if who < 0 || who >= n {
				holdMay(t, c, who, make([]api.Note, n), false)
				holdMay(t, c, who, known(c, 0), false)
				holdMay(t, c, who, nil, false)
				holdNobody(t, c, who, make([]api.Note, n))
				holdNobody(t, c, who, known(c, 0))
				holdHear(t, c, who, make([]api.Note, n), letter(c, 0, who), nil, api.Arg)
			}
		}
	}
}

// TestWrongConfigs: P14.1 to P14.3, by a config that may not be nothing may be, and nobody claims.
func TestWrongConfigs(t *testing.T) {
	good := config(3, 2)
	for _, c := range wrongConfigs() {
		for _, n := range []int{0, 1, 3, 17} {
			for _, who := range []int{-1, 0, 1, 2, 3} {
				l := make([]api.Note, n)
				holdMay(t, c, who, l, false)
				holdNobody(t, c, who, l)
				holdHear(t, c, who, l, letter(good, 0, 1), nil, api.Arg)
			}
		}
		for _, who := range []int{0, 1, 2} {
			l := claims(good, who, 5, 6, 7)
			holdMay(t, c, who, l, false)
			holdNobody(t, c, who, l)
			holdHear(t, c, who, l, letter(good, (who+1)%3, who), nil, api.Arg)
		}
		for _, asks := range []int{-1, 0, 1, 2, 8, 9, math.MaxInt} {
			holdOn(t, c, api.Note{Clock: 1, Head: ask(1, 1, 1), Asks: asks}, false)
		}
		holdMail(t, c, letter(good, 0, 1), false)
		holdMail(t, c, api.Mail{From: 0, To: 1, Clock: 1, Echo: make([]api.Look, 3)}, false)
	}
	holdMail(t, good, letter(good, 0, 1), true)
}

// TestMailNote: P14.1, Head, Asks, Look and Clock of a message are as those of a note of its sender, whoever that is; but its Clock isn't 0.
func TestMailNote(t *testing.T) {
	for _, n := range []int{2, 3, 16} {
		for _, r := range []int{0, 1, 8} {
			c := config(n, r)
			for from := range n {
				for _, x := range trials(c, from) {
					m := letter(c, from, (from+1)%n)
					m.Clock, m.Head, m.Asks, m.Look = x.note.Clock, x.note.Head, x.note.Asks, x.note.Look
					holdMail(t, c, m, x.may && m.Clock > 0)
					m.Clock = max(m.Clock, 1)
					holdMail(t, c, m, mailMay(c, m))
				}
			}
		}
	}
}

// TestMailClock: P14.1, the edges of a message's Clock.
func TestMailClock(t *testing.T) {
	c := config(3, 2)
	m := letter(c, 1, 2)
	for _, clock := range []int64{1, 2, mostTime - 1, mostTime} {
		m.Clock = clock
		holdMail(t, c, m, true)
	}
	for _, clock := range append([]int64{0}, badTimes...) {
		m.Clock = clock
		holdMail(t, c, m, false)
	}
}

// TestMailWhos: P14.1, From and To are unlike replicas; Head and Echo are held against From, not against To.
func TestMailWhos(t *testing.T) {
	for n := 1; n <= 16; n++ {
		c := config(n, 1)
		for from := range n {
			for to := range n {
				holdMail(t, c, letter(c, from, to), from != to)
				for of := range n {
					m := letter(c, of, to)
					m.From = from
					holdMail(t, c, m, from == of && from != to)
				}
			}
			for _, far := range farWhos(n) {
				if far >= 0 && far < n {
					continue
				}
				holdMail(t, c, letter(c, from, far), false)
				m := api.Mail{From: far, To: from, Clock: 1, Rows: rights.New(c), Echo: make([]api.Look, n)}
				holdMail(t, c, m, false)
				m.To = far
				holdMail(t, c, m, false)
				holdMail(t, c, letter(c, far, from), false)
			}
		}
	}
}

// TestMailRows: P14.1, any books that are right may be in a message, and no others.
func TestMailRows(t *testing.T) {
	c := config(3, 2) // shares 3, 2, 2
	m := letter(c, 1, 2)
	books := func(change func(l []api.Row)) []api.Row {
		l := rights.New(c)
		change(l)
		return l
	}
	for _, l := range [][]api.Row{
		books(func(l []api.Row) {}),
		books(func(l []api.Row) { l[0].Inc, l[2].Use = 5, 2 }),
		books(func(l []api.Row) { l[0].Out[1], l[1].Out[2] = 3, 5 }),
		books(func(l []api.Row) { l[1].Out[0], l[0].Out[1] = mostTime, mostTime }),
	} {
		m.Rows = l
		holdMail(t, c, m, true)
	}
	for _, l := range [][]api.Row{
		nil,
		rights.New(c)[:2],
		append(rights.New(c), api.Row{Out: make([]int64, 3)}),
		rights.New(config(2, 2)),
		rights.New(config(4, 2)),
		books(func(l []api.Row) { l[0].Inc = 6 }),
		books(func(l []api.Row) { l[0].Inc = -1 }),
		books(func(l []api.Row) { l[2].Use = 3 }),
		books(func(l []api.Row) { l[1].Out[1] = 1 }),
		books(func(l []api.Row) { l[0].Out[1] = 4 }),
		books(func(l []api.Row) { l[0].Out = nil }),
		books(func(l []api.Row) { l[1].Out[0], l[0].Out[1] = mostTime+1, mostTime+1 }),
	} {
		m.Rows = l
		holdMail(t, c, m, false)
	}
}

// TestMailEcho: P14.1, the echo has a look of each, none or one that may be; that of From is none, that of To needn't be.
func TestMailEcho(t *testing.T) {
	for _, n := range []int{2, 3, 16} {
		c := config(n, 1)
		for from := range n {
			m := letter(c, from, (from+1)%n)
			echo := m.Echo
			for have := range 20 {
				m.Echo = make([]api.Look, have)
				holdMail(t, c, m, have == n)
			}
			m.Echo = nil
			holdMail(t, c, m, false)
			m.Echo = make([]api.Look, n+5)[:n]
			holdMail(t, c, m, true)
			for of := range n {
				for _, k := range goodLooks() {
					m.Echo = with(echo, of, k)
					holdMail(t, c, m, of != from || k == api.Look{})
					m.Echo = with(make([]api.Look, n), of, k)
					holdMail(t, c, m, of != from || k == api.Look{})
				}
				for _, k := range badLooks() {
					m.Echo = with(echo, of, k)
					holdMail(t, c, m, false)
					m.Echo = with(make([]api.Look, n), of, k)
					holdMail(t, c, m, false)
				}
			}
		}
	}
}

// TestMailAsks: P14.1, Asks, Head, Look and Echo of a message each play their part by themselves: what is asked for needn't wait, and who waits needn't look.
func TestMailAsks(t *testing.T) {
	c := config(3, 2)
	for ways := range 16 {
		m := letter(c, 1, 0)
		if ways&1 > 0 {
			m.Head = api.Request{}
		}
		if ways&2 > 0 {
			m.Asks = 0
		}
		if ways&4 > 0 {
			m.Look = api.Look{}
		}
		if ways&8 > 0 {
			m.Echo = make([]api.Look, 3)
		}
		holdMail(t, c, m, true)
	}
}

// TestOn: P14.1, a claim has an amount above 0, and was asked for at least R times, of any note, also of one that may not be.
func TestOn(t *testing.T) {
	for r := range 9 {
		c := config(3, r)
		for _, asks := range []int{math.MinInt, -9, -1, 0, 1, r - 1, r, r + 1, 8, 9, 1 << 32, math.MaxInt} {
			for _, amount := range []int64{math.MinInt64, -mostAmount, -1, 0, 1, 2, mostAmount, mostAmount + 1, 1 << 62, math.MaxInt64} {
				for _, n := range []api.Note{{}, full(1), {Clock: -1, Head: ask(-1, -1, 0), Look: api.Look{Try: -1, Phase: 9}}, {Head: ask(mostTime+1, 99, 0)}} {
					n.Asks, n.Head.Amount = asks, amount
					holdOn(t, c, n, amount > 0 && asks >= r)
				}
			}
		}
	}
	// The zero note is none, also where nothing needs to be asked for.
	holdOn(t, config(1, 0), api.Note{}, false)
	holdOn(t, config(16, 0), api.Note{Head: ask(0, 0, 1)}, true)
}

// TestHearClock: P14.2, a message whose Clock is below that of its sender's note, just that, just above, and far above.
func TestHearClock(t *testing.T) {
	c := config(3, 2)
	for _, who := range []int{0, 1, 2} {
		for of := range 3 {
			if of == who {
				continue
			}
			m := letter(c, of, who)
			m.Head, m.Asks, m.Look = ask(77, of, 9), 2, api.Look{Try: 70, Phase: 2}
			for _, had := range []int64{0, 1, 2, 50, mostTime - 1, mostTime} {
				l := known(c, who)
				l[of].Clock = had
				for _, clock := range []int64{had - 1, had, had + 1, had + 2, 1, mostTime} {
					if clock < 1 || clock > mostTime {
						continue
					}
					m.Clock = clock
					want := slices.Clone(l)
					if clock > had {
						want[of] = api.Note{Clock: clock, Head: m.Head, Asks: 2, Look: m.Look}
					}
					holdHear(t, c, who, l, m, want, api.OK)
				}
			}
		}
	}
}

// TestHearAll: P14.2, each thing that a message tells takes the place of what was known, also where it tells of none, or of less; what is known of others stays.
func TestHearAll(t *testing.T) {
	c := config(4, 3)
	notes := []api.Note{{Clock: 50}, full(2), {Clock: 50, Head: ask(mostTime, 2, mostAmount), Asks: 3, Look: api.Look{Try: mostTime, Phase: 2}}}
	for _, had := range notes {
		l := with(known(c, 1), 2, had)
		for _, h := range goodHeads(2) {
			for asks := range 4 {
				for _, k := range goodLooks() {
					m := letter(c, 2, 1)
					m.Clock, m.Head, m.Asks, m.Look = 51, h, asks, k
					holdHear(t, c, 1, l, m, with(l, 2, api.Note{Clock: 51, Head: h, Asks: asks, Look: k}), api.OK)
					m.Clock = 50
					holdHear(t, c, 1, l, m, l, api.OK)
				}
			}
		}
	}
	// What the echo tells of others isn't heard, nor what the books tell.
	m := letter(c, 3, 1)
	m.Echo[0], m.Echo[2] = api.Look{Try: 99, Phase: 2}, api.Look{Try: 98, Phase: 1}
	holdHear(t, c, 1, make([]api.Note, 4), m, with(make([]api.Note, 4), 3, full(3)), api.OK)
}

// TestHearMany: P14.2, N of 2 and as many as may be, from each to each; alone, nobody hears anything.
func TestHearMany(t *testing.T) {
	for n := 1; n <= 16; n++ {
		c := config(n, 1)
		for from := range n {
			for to := range n {
				m := letter(c, from, to)
				for who := range n {
					var want []api.Note
					code := api.Arg
					if who == to && from != to {
						want, code = with(make([]api.Note, n), from, full(from)), api.OK
					}
					holdHear(t, c, who, make([]api.Note, n), m, want, code)
				}
			}
		}
	}
}

// TestHearArg: P14.2, notes that may not be, a message that may not be, and one to another replica tell Arg, also where the message would tell nothing new.
func TestHearArg(t *testing.T) {
	c := config(3, 2)
	for _, clock := range []int64{1, 50, 51} {
		m, l := letter(c, 2, 1), known(c, 1)
		m.Clock = clock
		want, code := heard(c, 1, l, m)
		holdHear(t, c, 1, l, m, want, code)
		for _, wrong := range [][]api.Note{nil, l[:2], append(slices.Clone(l), api.Note{}), known(c, 0), known(c, 2), with(l, 0, full(2)), with(l, 2, full(0)), with(l, 1, full(1)), with(l, 0, api.Note{Clock: -1}), with(l, 2, api.Note{Asks: 3}), with(l, 2, api.Note{Clock: mostTime + 1}), with(l, 2, api.Note{Head: ask(1, 2, 0)})} {
			holdHear(t, c, 1, wrong, m, nil, api.Arg)
		}
		for _, spoil := range []func(m *api.Mail){
			func(m *api.Mail) { m.To = 0 },
			func(m *api.Mail) { m.To = 2 },
			func(m *api.Mail) { m.To = -1 },
			func(m *api.Mail) { m.To = 3 },
			func(m *api.Mail) { m.From = 1 },
			func(m *api.Mail) { m.From = 0 },
			func(m *api.Mail) { m.From = -1 },
			func(m *api.Mail) { m.From = 3 },
			func(m *api.Mail) { m.Clock = 0 },
			func(m *api.Mail) { m.Clock = mostTime + 1 },
			func(m *api.Mail) { m.Rows = nil },
			func(m *api.Mail) { m.Rows[0].Use = 4 },
			func(m *api.Mail) { m.Head.Id.Who = 0 },
			func(m *api.Mail) { m.Head.Amount = 0 },
			func(m *api.Mail) { m.Head.Id.Time = 0 },
			func(m *api.Mail) { m.Asks = 3 },
			func(m *api.Mail) { m.Asks = -1 },
			func(m *api.Mail) { m.Look.Phase = 0 },
			func(m *api.Mail) { m.Look.Try = 0 },
			func(m *api.Mail) { m.Echo = m.Echo[:2] },
			func(m *api.Mail) { m.Echo[2] = api.Look{Try: 1, Phase: 1} },
			func(m *api.Mail) { m.Echo[0].Phase = 3 },
		} {
			bad := letter(c, 2, 1)
			bad.Clock = clock
			spoil(&bad)
			holdHear(t, c, 1, l, bad, nil, api.Arg)
		}
	}
	// To is another one that hears it.
	holdHear(t, c, 0, known(c, 0), letter(c, 2, 0), known(c, 0), api.OK)
	holdHear(t, c, 0, known(c, 0), letter(c, 2, 1), nil, api.Arg)
}

// TestOldest: P14.3, no claim, one, and several, in each order of their times, with alike ones among them: the oldest one, of alike ones that of the least number.
func TestOldest(t *testing.T) {
	c := config(4, 2)
	for code := range 256 {
		times := []int64{int64(code & 3), int64(code >> 2 & 3), int64(code >> 4 & 3), int64(code >> 6)}
		for who := range 4 {
			l := claims(c, who, times...)
			first, time := -1, int64(9)
			for of, v := range times {
				if of != who && v > 0 && v < time {
					first, time = of, v
				}
			}
			if first < 0 {
				holdNobody(t, c, who, l)
				continue
			}
			holdOldest(t, c, who, l, ask(time, first, 1), true)
			holdCalls(t, c, who, l, api.Request{}, first, true)
		}
	}
}

// TestOldestHead: P14.3, the whole head is told, whatever its amount, and whatever else the notes tell.
func TestOldestHead(t *testing.T) {
	c := config(3, 1)
	for _, amount := range []int64{1, 2, mostAmount - 1, mostAmount} {
		for _, time := range []int64{1, 2, mostTime - 1, mostTime} {
			for _, clock := range []int64{0, 1, mostTime} {
				for _, k := range goodLooks() {
					n := api.Note{Clock: clock, Head: ask(time, 2, amount), Asks: 1, Look: k}
					holdOldest(t, c, 0, []api.Note{{}, {}, n}, n.Head, true)
					holdOldest(t, c, 1, []api.Note{{Clock: 9, Asks: 1}, {}, n}, n.Head, true)
				}
			}
		}
	}
	// The clock, the amount and the look tell nothing of whose turn it is.
	l := []api.Note{{Clock: 1, Head: ask(8, 0, 1), Asks: 1, Look: api.Look{Try: 1, Phase: 2}}, {}, {Clock: 99, Head: ask(7, 2, 900), Asks: 1, Look: api.Look{Try: 99, Phase: 1}}}
	holdOldest(t, c, 1, l, ask(7, 2, 900), true)
}

// TestOldestAsks: P14.3, for each R, what was asked for R times is a claim, and what was less often isn't, however old it is.
func TestOldestAsks(t *testing.T) {
	for r := range 9 {
		c := config(3, r)
		for a := range r + 1 {
			for b := range r + 1 {
				l := []api.Note{{Clock: 1, Head: ask(3, 0, 5), Asks: a}, {}, {Clock: 1, Head: ask(4, 2, 6), Asks: b}}
				switch {
				case a == r:
					holdOldest(t, c, 1, l, ask(3, 0, 5), true)
				case b == r:
					holdOldest(t, c, 1, l, ask(4, 2, 6), true)
					holdHeld(t, c, 1, l, api.Stamp{Time: 4, Who: 1}, false)
					holdCalls(t, c, 1, l, ask(4, 1, 1), 0, false)
				default:
					holdNobody(t, c, 1, l)
				}
			}
		}
		// Asked for so often, but nobody waits.
		holdNobody(t, c, 1, []api.Note{{Clock: 9, Asks: r}, {}, {Clock: 9, Asks: r, Look: api.Look{Try: 3, Phase: 1}}})
	}
}

// TestOldestMany: P14.3, N of 1, 2 and as many as may be, the oldest claim in each place.
func TestOldestMany(t *testing.T) {
	holdNobody(t, config(1, 0), 0, make([]api.Note, 1))
	holdNobody(t, config(1, 1), 0, make([]api.Note, 1))
	for n := 2; n <= 16; n++ {
		for who := range n {
			for first := range n {
				if first == who {
					continue
				}
				c := config(n, who%3)
				times := slices.Repeat([]int64{8}, n)
				times[first] = 7
				l := claims(c, who, times...)
				holdOldest(t, c, who, l, ask(7, first, 1), true)
				holdCalls(t, c, who, l, ask(9, who, 1), first, true)
				holdOldest(t, c, who, with(make([]api.Note, n), first, l[first]), ask(7, first, 1), true)
			}
			holdNobody(t, config(n, 0), who, make([]api.Note, n))
		}
	}
}

// about are stamps about one: older, the same, and later, by their times and by whose they are.
func about(s api.Stamp) (older, later []api.Stamp) {
	older = []api.Stamp{{}, {Time: s.Time - 1, Who: s.Who}, {Time: s.Time - 1, Who: 99}, {Time: s.Time, Who: s.Who - 1}, {Time: s.Time, Who: math.MinInt}, {Time: math.MinInt64, Who: math.MaxInt}, {Time: 1, Who: s.Who}}
	later = []api.Stamp{{Time: s.Time + 1, Who: s.Who}, {Time: s.Time + 1, Who: 0}, {Time: s.Time + 1, Who: -99}, {Time: s.Time, Who: s.Who + 1}, {Time: s.Time, Who: math.MaxInt}, {Time: math.MaxInt64, Who: math.MinInt}, {Time: mostTime, Who: s.Who}}
	return older, later
}

// TestHeld: P14.3, by one claim and by several: an id that is older than the oldest claim, the same, and later, whatever stamp it is.
func TestHeld(t *testing.T) {
	c := config(4, 1)
	for _, l := range [][]api.Note{claims(c, 1, 0, 0, 7, 0), claims(c, 1, 7, 0, 0, 0), claims(c, 1, 0, 0, 0, 7), claims(c, 1, 7, 0, 7, 7), claims(c, 1, 9, 0, 7, 8), claims(c, 1, 8, 0, 9, 7)} {
		first, _ := oldest(c, 1, l)
		older, later := about(first.Id)
		for _, id := range append(older, first.Id) {
			holdHeld(t, c, 1, l, id, false)
		}
		for _, id := range later {
			holdHeld(t, c, 1, l, id, true)
		}
	}
}

// TestCalls: P14.3, by one claim and by several: a head that is none calls nobody off; one that is older than the oldest claim does, the same and a later one don't.
func TestCalls(t *testing.T) {
	c := config(4, 1)
	for _, l := range [][]api.Note{claims(c, 1, 0, 0, 7, 0), claims(c, 1, 7, 0, 0, 0), claims(c, 1, 0, 0, 0, 7), claims(c, 1, 7, 0, 7, 7), claims(c, 1, 9, 0, 7, 8), claims(c, 1, 8, 0, 9, 7)} {
		first, _ := oldest(c, 1, l)
		older, later := about(first.Id)
		for _, amount := range []int64{1, 5, mostAmount, mostAmount + 1, math.MaxInt64, -1, math.MinInt64} {
			for _, id := range older {
				holdCalls(t, c, 1, l, api.Request{Id: id, Amount: amount}, 0, false)
			}
			for _, id := range append(later, first.Id) {
				holdCalls(t, c, 1, l, api.Request{Id: id, Amount: amount}, first.Id.Who, true)
			}
		}
		// Its amount alone tells that it is none.
		for _, id := range slices.Concat(older, later, []api.Stamp{first.Id}) {
			holdCalls(t, c, 1, l, api.Request{Id: id}, first.Id.Who, true)
		}
	}
}

// TestWrongNotes: P14.3, by notes that may not be nobody claims, though some of them would.
func TestWrongNotes(t *testing.T) {
	c := config(3, 1)
	l := claims(c, 1, 7, 0, 8)
	holdOldest(t, c, 1, l, ask(7, 0, 1), true)
	wrong := [][]api.Note{nil, l[:1], l[:2], append(slices.Clone(l), api.Note{}), with(l, 0, l[2]), with(with(l, 0, l[2]), 2, l[0])}
	for _, own := range []api.Note{full(1), {Clock: 1}, {Asks: 1}, {Head: ask(1, 1, 1), Asks: 1}, {Look: api.Look{Try: 1, Phase: 1}}} {
		wrong = append(wrong, with(l, 1, own))
	}
	for _, x := range trials(c, 2) {
		if !x.may {
			wrong = append(wrong, with(l, 2, x.note))
		}
	}
	for _, w := range wrong {
		holdNobody(t, c, 1, w)
	}
	for _, who := range []int{0, 2, -1, 3, math.MaxInt, math.MinInt} {
		holdNobody(t, c, who, l)
	}
}

// drawnNote is one of who, at times with one thing spoilt.
func drawnNote(draw *rand.Rand, c api.Config, who int, spoilt int) api.Note {
	n := api.Note{Clock: draw.Int63n(9), Asks: c.R - min(draw.Intn(3), c.R)}
	if draw.Intn(4) > 0 {
		n.Head = ask(1+draw.Int63n(6), who, 1+draw.Int63n(9))
	}
	if draw.Intn(2) == 0 {
		n.Look = api.Look{Try: 1 + draw.Int63n(6), Phase: 1 + draw.Intn(2)}
	}
	if draw.Intn(40) >= spoilt {
		return n
	}
	all := trials(c, who)
	return all[draw.Intn(len(all))].note
}

// drawnNotes are those of who, at times spoilt.
func drawnNotes(draw *rand.Rand, c api.Config, who int) []api.Note {
	l := make([]api.Note, c.N)
	for of := range l {
		if of != who {
			l[of] = drawnNote(draw, c, of, 1)
		}
	}
	return l
}

// drawnMail is a message, at times spoilt, at times to another one.
func drawnMail(draw *rand.Rand, c api.Config, to int) api.Mail {
	m := letter(c, draw.Intn(c.N), to)
	n := drawnNote(draw, c, m.From, 4)
	m.Clock, m.Head, m.Asks, m.Look = n.Clock+int64(draw.Intn(2)), n.Head, n.Asks, n.Look
	switch draw.Intn(30) {
	case 0:
		m.To = draw.Intn(c.N+2) - 1
	case 1:
		m.From = draw.Intn(c.N+2) - 1
	case 2:
		m.Echo[draw.Intn(c.N)] = api.Look{Try: draw.Int63n(3), Phase: draw.Intn(4)}
	case 3:
		m.Rows[draw.Intn(c.N)].Use = draw.Int63n(9)
	case 4:
		m.Echo = m.Echo[:draw.Intn(c.N+1)]
	}
	return m
}

// TestByWords: P14.1 to P14.3, drawn notes, messages and stamps, right and spoilt: each call comes to what the words say.
func TestByWords(t *testing.T) {
	draw := rand.New(rand.NewSource(1))
	told := map[string]int{}
	for range 12000 {
		c := config(1+draw.Intn(5), draw.Intn(4))
		if draw.Intn(20) == 0 {
			c.N, c.R = 16, draw.Intn(9)
		}
		of := draw.Intn(c.N)
		l, m, who := drawnNotes(draw, c, of), drawnMail(draw, c, of), of
		if draw.Intn(20) == 0 {
			who = draw.Intn(c.N+2) - 1
		}
		may, mail := notesMay(c, who, l), mailMay(c, m)
		holdMay(t, c, who, l, may)
		holdMail(t, c, m, mail)
		want, code := heard(c, who, l, m)
		holdHear(t, c, who, l, m, want, code)
		first, ok := oldest(c, who, l)
		holdOldest(t, c, who, l, first, ok)
		head := ask(draw.Int63n(8), draw.Intn(c.N+2)-1, draw.Int63n(3))
		held := ok && olderThan(first.Id, head.Id)
		holdHeld(t, c, who, l, head.Id, held)
		calls, called := 0, ok && (head.Amount == 0 || !olderThan(head.Id, first.Id))
		if called {
			calls = first.Id.Who
		}
		holdCalls(t, c, who, l, head, calls, called)
		for name, is := range map[string]bool{"may": may, "notes may not": !may, "mail": mail, "mail may not": !mail, "heard": code == api.OK, "new": code == api.OK && !slices.Equal(l, want), "claimed": ok, "held": held, "called": called} {
			if is {
				told[name]++
			}
		}
	}
	for _, name := range []string{"may", "notes may not", "mail", "mail may not", "heard", "new", "claimed", "held", "called"} {
		if told[name] < 1000 {
			t.Errorf("the test's own draws: %q only %d times", name, told[name])
		}
	}
}

// TestNotForgotten: P14.4, messages in any order, some lost, some twice: of each sender that of the latest clock is known, and notes that may be stay so.
func TestNotForgotten(t *testing.T) {
	draw := rand.New(rand.NewSource(2))
	for n := 2; n <= 16; n++ {
		c, who := config(n, n%4), n/2
		l, latest := make([]api.Note, n), make([]api.Note, n)
		for range 400 {
			m := letter(c, (who+1+draw.Intn(n-1))%n, who)
			x := drawnNote(draw, c, m.From, 0)
			m.Clock, m.Head, m.Asks, m.Look = 1+draw.Int63n(200), x.Head, x.Asks, x.Look
			if m.Clock > latest[m.From].Clock {
				latest[m.From] = api.Note{Clock: m.Clock, Head: m.Head, Asks: m.Asks, Look: m.Look}
			}
			for range 1 + draw.Intn(2) {
				more, code := claim.Hear(c, who, l, m)
				if code != api.OK || !slices.Equal(more, latest) || !claim.May(c, who, more) {
					t.Fatalf("P14.4: N %d: %+v, %d behind %+v, want %+v", n, more, code, m, latest)
				}
				l = more
			}
		}
	}
}

// TestAnyOrder: P14.4, some messages of unlike clocks leave the same notes, in whatever order they come.
func TestAnyOrder(t *testing.T) {
	draw := rand.New(rand.NewSource(3))
	c := config(4, 2)
	for range 300 {
		var mail []api.Mail
		for i := range 8 {
			m := letter(c, 1+draw.Intn(3), 0)
			x := drawnNote(draw, c, m.From, 0)
			m.Clock, m.Head, m.Asks, m.Look = int64(i+1), x.Head, x.Asks, x.Look
			mail = append(mail, m)
		}
		var want []api.Note
		for range 6 {
			l := make([]api.Note, 4)
			for _, m := range mail {
				l, _ = claim.Hear(c, 0, l, m)
			}
			if want == nil {
				want = l
			}
			if !slices.Equal(l, want) {
				t.Fatalf("P14.4: %+v behind %+v, want %+v", l, mail, want)
			}
			draw.Shuffle(len(mail), func(i, j int) { mail[i], mail[j] = mail[j], mail[i] })
		}
	}
}

// TestHeldWaits: P14.4, who is held waits for a claim: there is one, it is older, it is the one that calls, and who claims by it is not held by it itself; when the claim is heard of no more, the wait ends.
func TestHeldWaits(t *testing.T) {
	draw := rand.New(rand.NewSource(4))
	seen := 0
	for range 3000 {
		c := config(2+draw.Intn(5), draw.Intn(3))
		who := draw.Intn(c.N)
		l := make([]api.Note, c.N)
		for of := range l {
			if of != who {
				l[of] = drawnNote(draw, c, of, 0)
			}
		}
		head := ask(1+draw.Int63n(7), who, 1)
		for rounds := 0; claim.Held(c, who, l, head.Id); rounds++ {
			seen++
			first, ok := claim.Oldest(c, who, l)
			of, called := claim.Calls(c, who, l, head)
			if !ok || !olderThan(first.Id, head.Id) || !called || of != first.Id.Who || !claim.On(c, l[of]) || l[of].Head != first || claim.Held(c, who, l, first.Id) || rounds > c.N {
				t.Fatalf("P14.4: %v is held by %+v: oldest %v, %t, calls %d, %t", head, l, first, ok, of, called)
			}
			m := letter(c, of, who)
			m.Clock, m.Head = l[of].Clock+1, api.Request{}
			l, _ = claim.Hear(c, who, l, m)
		}
		if of, called := claim.Calls(c, who, l, head); called {
			t.Fatalf("P14.4: %v isn't held by %+v, but %d calls", head, l, of)
		}
	}
	if seen < 1000 {
		t.Errorf("the test's own draws: only %d held", seen)
	}
}

// roomy is the same list with room behind it, in which such elements stand.
func roomy[T any](l []T, x T) []T {
	return append(slices.Clone(l), x, x, x, x)[:len(l)]
}

// handed are notes of 1, and a message to it from 2, all with spare room, none of it zero.
func handed(c api.Config) ([]api.Note, api.Mail) {
	l, m := roomy(known(c, 1), full(9)), letter(c, 2, 1)
	m.Clock = 60
	for i, r := range m.Rows {
		m.Rows[i].Out = roomy(r.Out, -7)
	}
	m.Rows = roomy(m.Rows, api.Row{Inc: -9, Use: -9, Out: []int64{-9}})
	m.Echo = roomy(m.Echo, api.Look{Try: -9, Phase: -9})
	return l, m
}

// room is all that notes and a message hold, their spare room too, in memory of its own.
func room(l []api.Note, m api.Mail) []any {
	all := []any{slices.Clone(l[:cap(l)]), m.From, m.To, m.Clock, m.Head, m.Asks, m.Look, slices.Clone(m.Echo[:cap(m.Echo)]), len(l), len(m.Rows), len(m.Echo)}
	for _, r := range m.Rows[:cap(m.Rows)] {
		all = append(all, r.Inc, r.Use, len(r.Out), slices.Clone(r.Out[:cap(r.Out)]))
	}
	return all
}

// TestStay: rules 3 and 4, notes and message that came in stay as they were, their spare room too, whatever is asked, and whatever is done to what came back; the answers hang on the arguments alone.
func TestStay(t *testing.T) {
	c := config(3, 1)
	l, m := handed(c)
	kept := room(l, m)
	for range 3 {
		for _, clock := range []int64{0, 1, 50, 60} { // wrong, twice nothing new, and new
			x := m
			x.Clock = clock
			want, code := heard(c, 1, slices.Clone(l), x)
			holdHear(t, c, 1, l, x, want, code)
			got, _ := claim.Hear(c, 1, l, x)
			got = got[:cap(got)]
			for i := range got {
				got[i] = full(8)
			}
			holdMail(t, c, x, clock > 0)
		}
		holdHear(t, c, 1, l[:2], m, nil, api.Arg)
		holdHear(t, c, 1, l[:4], m, nil, api.Arg)
		holdHear(t, c, 0, l, m, nil, api.Arg)
		holdMay(t, c, 1, l, true)
		holdMay(t, c, 0, l, false)
		holdOldest(t, c, 1, l, ask(10, 0, 5), true)
		holdHeld(t, c, 1, l, api.Stamp{Time: 10, Who: 1}, true)
		holdCalls(t, c, 1, l, ask(10, 1, 3), 0, true)
		if now := room(l, m); !reflect.DeepEqual(now, kept) {
			t.Fatalf("rule 3: what was handed in is %+v now, want %+v", now, kept)
		}
	}
}

// TestAnswerStays: rules 3 and 4, what comes back isn't changed by what is done later to what was handed in, nor by other answers; nothing of that was kept.
func TestAnswerStays(t *testing.T) {
	c := config(3, 1)
	for _, clock := range []int64{40, 50, 60} {
		l, m := handed(c)
		m.Clock = clock
		want, _ := heard(c, 1, l, m)
		one, _ := claim.Hear(c, 1, l, m)
		two, _ := claim.Hear(c, 1, l, m)
		all := l[:cap(l)]
		for i := range all {
			all[i] = api.Note{Clock: -5}
		}
		m.Rows[0].Use, m.Rows[0].Out[1], m.Echo[0] = -5, -5, api.Look{Try: -5}
		two[0], two[2] = api.Note{}, api.Note{}
		if !slices.Equal(one, want) {
			t.Errorf("rule 3: Clock %d: it was %+v, and is %+v now", clock, want, one)
		}
		holdHear(t, c, 1, l, m, nil, api.Arg)
		holdMail(t, c, m, false)
		holdMay(t, c, 1, l, false)
		holdNobody(t, c, 1, l)
		holdOldest(t, c, 1, one, ask(10, 0, 5), true)
		holdOldest(t, c, 1, two, api.Request{}, false)
	}
}
