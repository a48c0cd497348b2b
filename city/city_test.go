package city_test

import (
	"math"
	"slices"
	"testing"

	"coffers/api"
	"coffers/book"
	"coffers/city"
	"coffers/node"
	"coffers/rights"
)

// sizes are how many replicas the tests of the edges have.
var sizes = []int{1, 2, 16}

// TestExample: DoDec with Fault 1: Unavailable.
func TestExample(t *testing.T) {
	for _, n := range sizes {
		c := config(n)
		x := started(t, c)
		for who := range n {
			a := api.Act{Kind: api.DoDec, Who: who, Amount: 3, Fault: 1}
			holdDo(t, c, x, a, x, api.Mark{Kind: api.DoDec, Who: who, Code: api.Unavailable})
			x = behind(t, c, x, api.Act{Kind: api.DoDec, Who: who, Amount: 2})
			holdDo(t, c, x, a, x, api.Mark{Kind: api.DoDec, Who: who, Code: api.Unavailable})
		}
	}
}

// TestNew: P19.1, the city at first, for each N that may be; none by a config that may not be.
func TestNew(t *testing.T) {
	for n := 1; n <= 16; n++ {
		c := config(n)
		var want api.City
		for range n {
			want.Sites = append(want.Sites, api.Site{Up: true, Node: api.Node{Book: api.Book{Rows: rights.New(c), Notes: make([]api.Note, n)}}})
		}
		x, code := city.New(c)
		if code != api.OK || !same(x, want) {
			t.Errorf("P19.1: New(%+v): %+v, %d, want %+v", c, x, code, want)
		}
		holdMay(t, c, x, true)
	}
	for _, c := range wrongConfigs() {
		if x, code := city.New(c); code != api.Arg || !same(x, api.City{}) {
			t.Errorf("P19.1: New(%+v): %+v, %d, want none, %d", c, x, code, api.Arg)
		}
	}
}

// TestMaySites: P19.1, as many sites as N says, one fewer, one more, none; configs that may not be.
func TestMaySites(t *testing.T) {
	for n := 1; n <= 16; n++ {
		c := config(n)
		x := started(t, c)
		holdMay(t, c, x, true)
		holdMay(t, c, with(x, func(x *api.City) { x.Sites = x.Sites[:n-1] }), false)
		holdMay(t, c, with(x, func(x *api.City) { x.Sites = append(x.Sites, x.Sites[n-1]) }), false)
		holdMay(t, c, with(x, func(x *api.City) { x.Sites = append(x.Sites, api.Site{}) }), false)
		holdMay(t, c, api.City{}, false)
		holdMay(t, c, api.City{Sites: []api.Site{}, Mail: letters(c, 2)}, false)
		// Without power nothing but the number of sites tells of which config it is.
		for m := 1; m <= 17; m++ {
			holdMay(t, c, api.City{Sites: make([]api.Site, m)}, m == n)
		}
	}
	for _, c := range wrongConfigs() {
		holdMay(t, c, started(t, config(2)), false)
		holdMay(t, c, api.City{Sites: make([]api.Site, 2)}, false)
		holdMay(t, c, api.City{Sites: make([]api.Site, 17)}, false)
		holdMay(t, c, api.City{}, false)
	}
}

// TestMayUp: P19.1, a site that is Up with a node that may be, and with ones that may not be, in each place.
func TestMayUp(t *testing.T) {
	for _, n := range sizes {
		c := config(n)
		for who := range n {
			x := behind(t, c, started(t, c), api.Act{Kind: api.DoDec, Who: who, Amount: 30}, api.Act{Kind: api.DoTick, Who: who})
			holdMay(t, c, x, true)
			for _, spoil := range []func(n *api.Node){
				func(n *api.Node) { *n = api.Node{} },
				func(n *api.Node) { n.Book.Clock = -1 },
				func(n *api.Node) { n.Book.Clock = 0 },
				func(n *api.Node) { n.Book.Rows = n.Book.Rows[1:] },
				func(n *api.Node) { n.Book.Rows[who].Inc = 6 },
				func(n *api.Node) { n.Book.Notes[who].Clock = 1 },
				func(n *api.Node) { n.Book.Asks = 2 },
				func(n *api.Node) { n.Wake.Ticks = -1 },
				func(n *api.Node) { n.Wake.Ticks = mostTime + 1 },
				func(n *api.Node) { n.Wake.Next = n.Wake.Ticks + 17 },
				func(n *api.Node) { n.Wake.Asked = make([]int64, 65) },
			} {
				holdMay(t, c, with(x, func(x *api.City) { spoil(&x.Sites[who].Node) }), false)
			}
			// What waits there tells whose it is.
			holdMay(t, c, with(x, func(x *api.City) { x.Sites[(who+1)%n].Node = x.Sites[who].Node }), n == 1)
		}
	}
}

// TestMayDown: P19.1, a site that isn't Up with the zero node, also where its lists are empty ones; and with others.
func TestMayDown(t *testing.T) {
	for _, n := range sizes {
		c := config(n)
		for who := range n {
			x := down(started(t, c), who)
			holdMay(t, c, x, true)
			other := func(change func(n *api.Node), may bool) {
				t.Helper()
				holdMay(t, c, with(x, func(x *api.City) { change(&x.Sites[who].Node) }), may)
			}
			other(func(n *api.Node) {
				*n = api.Node{Book: api.Book{Rows: []api.Row{}, Line: []api.Request{}, Outs: []api.Outcome{}, Notes: []api.Note{}}, Wake: api.Wake{Asked: []int64{}}}
				n.Book.Audit = api.Audit{Told: []bool{}, Use: []int64{}, Inc: []int64{}}
			}, true)
			for _, change := range []func(n *api.Node){
				func(k *api.Node) { *k, _ = node.New(c, who) },
				func(n *api.Node) { n.Book.Clock = 1 },
				func(n *api.Node) { n.Book.Clock = -1 },
				func(n *api.Node) { n.Book.Rows = make([]api.Row, 1) },
				func(n *api.Node) { n.Book.Line = make([]api.Request, 1) },
				func(n *api.Node) { n.Book.Outs = make([]api.Outcome, 1) },
				func(n *api.Node) { n.Book.Asks = 1 },
				func(n *api.Node) { n.Book.Asks = -1 },
				func(n *api.Node) { n.Book.Notes = make([]api.Note, 1) },
				func(n *api.Node) { n.Book.Audit.Look.Try = 1 },
				func(n *api.Node) { n.Book.Audit.Look.Phase = 1 },
				func(n *api.Node) { n.Book.Audit.Told = make([]bool, 1) },
				func(n *api.Node) { n.Book.Audit.Use = make([]int64, 1) },
				func(n *api.Node) { n.Book.Audit.Inc = make([]int64, 1) },
				func(n *api.Node) { n.Book.Audit.Moved = true },
				func(n *api.Node) { n.Wake.Ticks = 1 },
				func(n *api.Node) { n.Wake.Ticks = -1 },
				func(n *api.Node) { n.Wake.Next = 1 },
				func(n *api.Node) { n.Wake.Next = -1 },
				func(n *api.Node) { n.Wake.Asked = make([]int64, 1) },
				func(n *api.Node) { n.Book.Clock, n.Book.Asks = 1, -1 },
				func(n *api.Node) { n.Wake.Ticks, n.Wake.Next = 1, -1 },
			} {
				other(change, false)
			}
		}
	}
}

// TestMayTape: P19.1, tapes that are as opened, whatever their frames hold, and ones that aren't; of sites that are Up, and that aren't.
func TestMayTape(t *testing.T) {
	ab, none := framed([]byte("ab")), framed(nil)
	both := framed([]byte("ab"), nil)
	turned := slices.Clone(ab)
	turned[1]++
	for _, n := range sizes {
		c := config(n)
		for who := range n {
			for _, x := range []api.City{started(t, c), down(started(t, c), who)} {
				tape := func(of api.Tape, may bool) {
					t.Helper()
					holdMay(t, c, with(x, func(x *api.City) { x.Sites[who].Tape = of }), may)
				}
				for _, b := range [][]byte{nil, {}, ab, none, both, framed(nil, nil, []byte("c"))} {
					tape(api.Tape{Main: api.Area{Sure: b}}, true)
					tape(api.Tape{Main: api.Area{Sure: b, Loose: []byte{}}, Spare: api.Area{Sure: []byte{}, Loose: []byte{}}}, true)
				}
				for _, b := range [][]byte{{0}, ab[1:], ab[:len(ab)-1], append(slices.Clone(ab), 0), both[:len(both)-1], turned} {
					tape(api.Tape{Main: api.Area{Sure: b}}, false)
				}
				for _, b := range [][]byte{{0}, none, ab} {
					tape(api.Tape{Main: api.Area{Loose: b}}, false)
					tape(api.Tape{Main: api.Area{Sure: ab, Loose: b}}, false)
					tape(api.Tape{Main: api.Area{Sure: ab}, Spare: api.Area{Sure: b}}, false)
					tape(api.Tape{Main: api.Area{Sure: ab}, Spare: api.Area{Loose: b}}, false)
					tape(api.Tape{Spare: api.Area{Sure: b}}, false)
					tape(api.Tape{Spare: api.Area{Loose: b}}, false)
				}
			}
		}
	}
}

// TestMayBound: P19.1, a tape of as many bytes as the bound, and of one more, and of as many as a tape may have; in one frame, and in two.
func TestMayBound(t *testing.T) {
	for _, n := range sizes {
		for _, q := range []int{1, 8} {
			c := config(n)
			c.Q = q
			bound := 16 * (n*(n+12) + 6*q + 20)
			for _, who := range []int{0, n / 2, n - 1} {
				for _, x := range []api.City{started(t, c), down(started(t, c), who)} {
					holdMay(t, c, taped(x, who, filled(t, bound-1)), true)
					holdMay(t, c, taped(x, who, filled(t, bound)), true)
					holdMay(t, c, taped(x, who, append(framed(nil), filled(t, bound-5)...)), true)
					holdMay(t, c, taped(x, who, filled(t, bound+1)), false)
					holdMay(t, c, taped(x, who, append(framed(nil), filled(t, bound-4)...)), false)
					holdMay(t, c, taped(x, who, filled(t, 65536)), false)
				}
			}
		}
	}
}

// wrongLetters are messages that may not be, by c: one thing is wrong with each.
func wrongLetters(c api.Config) (list []api.Mail) {
	for _, spoil := range []func(m *api.Mail){
		func(m *api.Mail) { m.From = m.To },
		func(m *api.Mail) { m.From = -1 },
		func(m *api.Mail) { m.To = c.N },
		func(m *api.Mail) { m.To = math.MinInt },
		func(m *api.Mail) { m.Clock = 0 },
		func(m *api.Mail) { m.Clock = mostTime + 1 },
		func(m *api.Mail) { m.Rows = nil },
		func(m *api.Mail) { m.Rows[0].Use = 11 },
		func(m *api.Mail) { m.Head.Amount = 1 },
		func(m *api.Mail) { m.Asks = c.R + 1 },
		func(m *api.Mail) { m.Look.Phase = 1 },
		func(m *api.Mail) { m.Echo = m.Echo[1:] },
		func(m *api.Mail) { m.Echo[m.From].Try = 1 },
	} {
		m := letter(c, 0, c.N-1, 9)
		spoil(&m)
		list = append(list, m)
	}
	return list
}

// TestMayMail: P19.1, no message, one, as many as may be, one more; ones that may not be, first, in the midst and last.
func TestMayMail(t *testing.T) {
	for _, n := range []int{2, 3, 16} {
		c := config(n)
		x := started(t, c)
		for _, many := range []int{0, 1, 2, 399, 400} {
			holdMay(t, c, posted(x, letters(c, many)), true)
		}
		holdMay(t, c, posted(x, letters(c, 401)), false)
		holdMay(t, c, posted(x, letters(c, 402)), false)
		for _, m := range wrongLetters(c) {
			holdMay(t, c, posted(x, []api.Mail{m}), false)
			for _, at := range []int{0, 4, 9} {
				l := letters(c, 10)
				l[at] = m
				holdMay(t, c, posted(x, l), false)
			}
		}
		// Of another config the books aren't right.
		holdMay(t, c, posted(x, letters(config(n-1+2*(n%2)), 1)), false)
	}
	// Alone, nobody writes.
	holdMay(t, config(1), posted(started(t, config(1)), []api.Mail{letter(config(1), 0, 0, 1)}), false)
}

// TestKinds: P19.2, each Kind that there is, and others, at each site that there is, and at others; Up, and not.
func TestKinds(t *testing.T) {
	for _, n := range sizes {
		c := config(n)
		up := started(t, c)
		dark := api.City{Sites: make([]api.Site, n)}
		tell := func(x api.City, a api.Act, code api.Code) {
			t.Helper()
			if _, m := city.Do(c, x, a); m.Kind != a.Kind || m.Who != a.Who || m.Code != code {
				t.Errorf("P19.2: Do(%+v, .., %+v): %+v, want %d", c, a, m, code)
			}
		}
		for _, kind := range []int{api.DoInc, api.DoDec, api.DoRead, api.DoTick, api.DoCrash, api.DoRestart} {
			there, dead := api.OK, api.Down
			if kind == api.DoRestart {
				there, dead = api.Arg, api.OK
			}
			for who := range n {
				a := api.Act{Kind: kind, Who: who, Amount: 1}
				tell(up, a, there)
				tell(dark, a, dead)
				tell(down(up, who), a, dead)
			}
			for _, who := range farWhos(n) {
				for _, x := range []api.City{up, dark} {
					holdDo(t, c, x, api.Act{Kind: kind, Who: who, Amount: 1}, x, api.Mark{Kind: kind, Who: who, Code: api.Arg})
				}
			}
		}
		for _, who := range append(farWhos(n), 0, n-1) {
			for _, x := range []api.City{up, dark} {
				for _, kind := range []int{0, 10, 11, -1, -9, 1 << 32, math.MinInt, math.MaxInt} {
					holdDo(t, c, x, api.Act{Kind: kind, Who: who, Amount: 1}, x, api.Mark{Kind: kind, Who: who, Code: api.Arg})
				}
				for _, kind := range []int{api.DoDeliver, api.DoDrop, api.DoTwice} {
					tell(x, api.Act{Kind: kind, Who: who}, api.None)
				}
			}
		}
	}
}

// TestDoArg: P19.2, of a city that may not be: as it is, and Arg, whatever the act.
func TestDoArg(t *testing.T) {
	c := config(2)
	x := behind(t, c, started(t, c), api.Act{Kind: api.DoDec, Amount: 3}, api.Act{Kind: api.DoTick})
	for _, wrong := range []api.City{
		{},
		with(x, func(x *api.City) { x.Sites = x.Sites[:1] }),
		with(x, func(x *api.City) { x.Sites = append(x.Sites, api.Site{}) }),
		with(x, func(x *api.City) { x.Sites[1].Up = false }),
		with(x, func(x *api.City) { x.Sites[0].Node.Wake.Ticks = -1 }),
		taped(x, 1, []byte{0}),
		taped(x, 1, filled(t, book.Bound(c)+1)),
		posted(x, letters(c, 401)),
		posted(x, wrongLetters(c)[:1]),
	} {
		for kind := -1; kind <= 11; kind++ {
			for _, who := range []int{-1, 0, 1, 2, math.MinInt, math.MaxInt} {
				for _, at := range []int{0, -1, 400} {
					holdDo(t, c, wrong, api.Act{Kind: kind, Who: who, Amount: 1, At: at, Fault: at}, wrong, api.Mark{Kind: kind, Who: who, Code: api.Arg})
				}
			}
		}
	}
	for _, wrong := range wrongConfigs() {
		holdDo(t, wrong, x, api.Act{Kind: api.DoRead, Who: 1}, x, api.Mark{Kind: api.DoRead, Who: 1, Code: api.Arg})
		holdDo(t, wrong, api.City{}, api.Act{Kind: api.DoTwice, Who: 5}, api.City{}, api.Mark{Kind: api.DoTwice, Who: 5, Code: api.Arg})
	}
}

// TestRead: P19.2, what the site's node reads, which isn't what another one does; where there is none, nothing.
func TestRead(t *testing.T) {
	c := config(3)
	x := behind(t, c, started(t, c), api.Act{Kind: api.DoInc, Who: 1, Amount: 5}, api.Act{Kind: api.DoDec, Who: 2, Amount: 7})
	for who, value := range []int64{30, 35, 23} {
		for _, fault := range faults {
			holdDo(t, c, x, api.Act{Kind: api.DoRead, Who: who, Fault: fault, Amount: 9, At: -1}, x, api.Mark{Kind: api.DoRead, Who: who, Value: value})
		}
		dark := down(x, who)
		holdDo(t, c, dark, api.Act{Kind: api.DoRead, Who: who}, dark, api.Mark{Kind: api.DoRead, Who: who, Code: api.Down})
	}
}

// TestRun: P19.3, no acts, some, as many as may be, one more; the marks of all, in order; configs that may not be.
func TestRun(t *testing.T) {
	for _, n := range sizes {
		c := config(n)
		x, marks, code := city.Run(c, nil)
		if !same(x, started(t, c)) || len(marks) != 0 || code != api.OK {
			t.Errorf("P19.3: Run of no acts: %+v, %+v, %d", x, marks, code)
		}
		acts := make([]api.Act, mostActs)
		for i := range acts {
			acts[i] = api.Act{Kind: 1 + i*5%11, Who: i % n, Amount: int64(1 + i%3), At: i % 7, Fault: i % 5 / 3, Keep: i}
		}
		for _, many := range []int{0, 1, 60, 400} {
			want, told := started(t, c), []api.Mark(nil)
			for _, a := range acts[:many] {
				var m api.Mark
				want, m = doWords(c, want, a)
				told = append(told, m)
			}
			was := memory(acts)
			x, marks, code := city.Run(c, acts[:many])
			if !same(x, want) || !same(marks, told) || code != api.OK {
				t.Errorf("P19.3: Run of %d acts: %+v, %+v, %d, want %+v, %+v", many, x, marks, code, want, told)
			}
			if !slices.Equal(memory(acts), was) {
				t.Errorf("rule 3: Run: the acts that came in are %+v now", acts)
			}
		}
		for _, many := range []int{401, 402, 1000} {
			x, marks, code := city.Run(c, make([]api.Act, many))
			if !same(x, api.City{}) || len(marks) != 0 || code != api.Arg {
				t.Errorf("P19.3: Run of %d acts: %+v, %+v, %d", many, x, marks, code)
			}
		}
	}
	for _, c := range wrongConfigs() {
		for _, many := range []int{0, 1, 400, 401} {
			x, marks, code := city.Run(c, make([]api.Act, many))
			if !same(x, api.City{}) || len(marks) != 0 || code != api.Arg {
				t.Errorf("P19.3: Run(%+v) of %d acts: %+v, %+v, %d", c, many, x, marks, code)
			}
		}
	}
}
