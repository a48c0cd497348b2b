package ledger_test

import (
	"math"
	"testing"

	"coffers/api"
	"coffers/book"
	"coffers/city"
	"coffers/frame"
	"coffers/ledger"
	"coffers/rights"
)

// TestExample: DoDec 2 of K 6.
func TestExample(t *testing.T) {
	for _, n := range []int{1, 2} {
		holdStory(t, config(n), []api.Act{dec(0, 2)}, []int64{6, 4}, answer(1, 0, 2, 0, 0, api.OK))
	}
}

// TestNoActs: P20.1, P20.2, P20.3, the story of nothing: all that there is at first, for each N and K that may be, from 0 to the greatest.
func TestNoActs(t *testing.T) {
	for n := 1; n <= 16; n++ {
		for _, c := range []api.Config{
			config(n),
			{N: n, Q: 1, P: 1},
			{N: n, Q: 8, R: 8, P: 16, K: mostAmount},
			{N: n, Q: 1, P: 16, K: 1, C: 1},
			{N: n, Q: 1, P: 1, C: mostAmount / int64(n)},
		} {
			holdStory(t, c, nil, []int64{c.K})
			holdStory(t, c, []api.Act{}, []int64{c.K})
		}
	}
}

// TestNone: P20.2, P20.3, no story: the config may not be, or there are too many acts; as many as may be have one.
func TestNone(t *testing.T) {
	for _, c := range wrongConfigs() {
		holdNone(t, c, nil)
		holdNone(t, c, []api.Act{dec(0, 1)})
	}
	for _, n := range sizes {
		c := config(n)
		c.K, c.Q = 1000*int64(n), 1
		var acts []api.Act
		values := []int64{c.K}
		var answers []ledger.Answer
		for i := range mostActs {
			acts = append(acts, dec(n-1, 1))
			values = append(values, c.K-int64(i)-1)
			answers = append(answers, answer(int64(i+1), n-1, 1, i, i, api.OK))
		}
		holdTold(t, c, acts, ledger.Story{Values: values, Answers: answers, Marks: done(t, c, acts).marks})
		holdNone(t, c, append(acts, dec(n-1, 1)))
		holdNone(t, c, make([]api.Act, mostActs+1))
		holdNone(t, c, make([]api.Act, 3*mostActs))
	}
}

// TestGreatest: P20.2, the greatest amounts that may be.
func TestGreatest(t *testing.T) {
	for _, n := range sizes {
		c := api.Config{N: n, Q: 1, P: 1, K: mostAmount}
		share := int64(mostAmount / n)
		holdStory(t, c, []api.Act{dec(n-1, share), dec(n-1, mostAmount)}, []int64{mostAmount, mostAmount - share, mostAmount - share},
			answer(1, n-1, share, 0, 0, api.OK), answer(2, n-1, mostAmount, 1, -1, api.OK))
		c = api.Config{N: n, Q: 1, P: 1, C: share}
		holdStory(t, c, []api.Act{dec(0, 1), inc(0, share), inc(n-1, share), dec(0, share)}, greatValues(n, share),
			answer(1, 0, 1, 0, 1, api.OK), answer(2, 0, share, 3, -1, api.OK))
	}
}

// greatValues are those of TestGreatest, where all is put in: at one site the second put is too much.
func greatValues(n int, share int64) []int64 {
	if n == 1 {
		return []int64{0, 0, share - 1, share - 1, share - 1}
	}
	return []int64{0, 0, share - 1, 2*share - 1, 2*share - 1}
}

// behind is the city behind some acts.
func behind(t *testing.T, c api.Config, acts ...api.Act) api.City {
	t.Helper()
	x, _, code := city.Run(c, acts)
	if code != api.OK {
		t.Fatalf("the test's own acts: %+v, %+v: %d", c, acts, code)
	}
	return x
}

// taped is the same city, in which a site isn't Up, and its tape has frames of these.
func taped(x api.City, who int, payloads ...[]byte) api.City {
	x = copied(x)
	var b []byte
	for _, p := range payloads {
		b = frame.Put(b, p)
	}
	x.Sites[who] = api.Site{Tape: api.Tape{Main: api.Area{Sure: b}}}
	return x
}

// TestTruthUp: P20.1, of sites that are Up the own rows of their nodes count, not what others know of them.
func TestTruthUp(t *testing.T) {
	c := config(2)
	acts := []api.Act{inc(0, 2), dec(0, 3), inc(1, 4), dec(1, 1)}
	x := behind(t, c, acts...)
	for who, value := range []int64{5, 9} {
		if _, m := city.Do(c, x, api.Act{Kind: api.DoRead, Who: who}); m.Value != value {
			t.Fatalf("the test's own city: %d reads %d", who, m.Value)
		}
	}
	holdTruth(t, c, x, 8)
	holdTruth(t, c, behind(t, c, append(acts, tick(0), deliver(0), tick(1), deliver(0))...), 8)
	for n := 1; n <= 16; n++ {
		c := config(n)
		c.K = 10 * int64(n)
		truth := c.K
		var acts []api.Act
		for who := range n {
			acts = append(acts, inc(who, int64(who%9+1)), dec(who, int64(who%5+1)))
			truth += int64(who%9 - who%5)
		}
		holdTruth(t, c, behind(t, c, acts...), truth)
	}
}

// TestTruthAnyBooks: P20.1, sites that are Up, with books that no acts lead to: another one's row is known to be ahead of what it is, so that the truth is above and below all that there may be.
func TestTruthAnyBooks(t *testing.T) {
	c := api.Config{N: 2, Q: 1, P: 1, K: 0, C: 5}
	x := behind(t, c)
	x.Sites[0].Node.Book.Rows = []api.Row{{Use: 5, Out: []int64{0, 0}}, {Inc: 5, Out: []int64{5, 0}}}
	holdTruth(t, c, x, -5)
	x.Sites[1].Node.Book.Rows = []api.Row{{Inc: 3, Out: []int64{0, 3}}, {Inc: 2, Use: 4, Out: []int64{0, 0}}}
	holdTruth(t, c, x, -7)
	x.Sites[0].Node.Book.Rows = rights.New(c)
	holdTruth(t, c, x, -2)
}

// TestTruthDown: P20.1, of a site that isn't Up the book counts that its tape has, the last one there; none, where the tape has nothing, or something that is none.
func TestTruthDown(t *testing.T) {
	for _, n := range sizes {
		c := config(n)
		c.K = 10 * int64(n)
		for _, who := range []int{0, n - 1} {
			acts := []api.Act{dec(who, 4), inc(who, 1)}
			x := behind(t, c, acts...)
			b := book.Put(x.Sites[who].Node.Book)
			first := book.Put(behind(t, c, acts[0]).Sites[who].Node.Book)
			holdTruth(t, c, x, c.K-3)
			holdTruth(t, c, behind(t, c, append(acts, crash(who))...), c.K-3)
			for _, k := range []struct {
				payloads [][]byte
				truth    int64
			}{
				{nil, c.K},
				{[][]byte{b}, c.K - 3},
				{[][]byte{first}, c.K - 4},
				{[][]byte{b, first}, c.K - 4},
				{[][]byte{first, b}, c.K - 3},
				{[][]byte{{}}, c.K},
				{[][]byte{{1, 2, 3}}, c.K},
				{[][]byte{b, {}}, c.K},
				{[][]byte{{1}, b}, c.K - 3},
				{[][]byte{b, b[1:]}, c.K},
				{[][]byte{b, append(b[:len(b):len(b)], 0)}, c.K},
				{[][]byte{b, book.Put(api.Book{Clock: -1})}, c.K},
			} {
				holdTruth(t, c, taped(x, who, k.payloads...), k.truth)
			}
		}
	}
	// What another one wrote down isn't one's own.
	c := config(2)
	x := behind(t, c, dec(0, 2), tick(0), deliver(0), dec(1, 1))
	holdTruth(t, c, x, 3)
	holdTruth(t, c, taped(x, 0, book.Put(x.Sites[1].Node.Book)), 5)
}

// TestTruthAllDown: P20.1, no site is Up.
func TestTruthAllDown(t *testing.T) {
	for _, n := range sizes {
		c := config(n)
		c.K = 10 * int64(n)
		var acts []api.Act
		for who := range n {
			acts = append(acts, dec(who, 3), crash(who))
		}
		holdTruth(t, c, behind(t, c, acts...), 7*int64(n))
		x := behind(t, c)
		for who := range n {
			x = taped(x, who)
		}
		holdTruth(t, c, x, c.K)
	}
}

// TestTruthNot: P20.1, 0 of a city that may not be: one thing is wrong with each.
func TestTruthNot(t *testing.T) {
	for _, n := range sizes {
		c := config(n)
		x := behind(t, c, inc(0, 2), crash(n-1), restart(n-1))
		holdTruth(t, c, x, 8)
		holdTruth(t, c, api.City{}, 0)
		for _, wrong := range wrongConfigs() {
			holdTruth(t, wrong, x, 0)
		}
		for i, spoil := range []func(x *api.City){
			func(x *api.City) { x.Sites = x.Sites[:n-1] },
			func(x *api.City) { x.Sites = append(x.Sites, x.Sites[0]) },
			func(x *api.City) { x.Sites[n-1].Up = false },
			func(x *api.City) { x.Sites[n-1].Node = api.Node{} },
			func(x *api.City) { x.Sites[n-1].Node.Book.Rows = nil },
			func(x *api.City) { x.Sites[n-1].Node.Book.Clock = -1 },
			func(x *api.City) { x.Sites[0].Node.Wake.Ticks = -1 },
			func(x *api.City) { x.Sites[0].Tape.Main.Loose = []byte{1} },
			func(x *api.City) { x.Sites[0].Tape.Main.Sure = append(x.Sites[0].Tape.Main.Sure, 1) },
			func(x *api.City) { x.Sites[0].Tape.Main.Sure = make([]byte, book.Bound(c)+5) },
			func(x *api.City) { x.Mail = []api.Mail{{}} },
			func(x *api.City) { x.Mail = make([]api.Mail, 401) },
		} {
			y := copied(x)
			if spoil(&y); city.May(c, y) {
				t.Fatalf("the test's own city %d may be: %+v", i, y)
			}
			holdTruth(t, c, y, 0)
		}
	}
}

// size is how many bytes an act writes to a tape, done behind others.
func size(t *testing.T, c api.Config, acts []api.Act, a api.Act) int {
	t.Helper()
	x := behind(t, c, append(acts[:len(acts):len(acts)], a)...)
	return frame.Size(len(book.Put(x.Sites[a.Who].Node.Book)))
}

// TestPuts: P20.2, what is put in: saved, refused by the node or the disk, torn with nothing, too little and all kept, at a site that isn't Up.
func TestPuts(t *testing.T) {
	for _, n := range sizes {
		c := config(n)
		for _, who := range []int{0, n - 1} {
			a := inc(who, 4)
			all := size(t, c, nil, a)
			holdStory(t, c, []api.Act{a}, []int64{6, 10})
			holdStory(t, c, []api.Act{a, inc(who, 6), inc(who, 5), inc(who, 1)}, []int64{6, 10, 10, 15, 15})
			for _, amount := range []int64{0, -1, 10, mostAmount, mostAmount + 1, math.MinInt64, math.MaxInt64} {
				holdStory(t, c, []api.Act{inc(who, amount)}, []int64{6, 6})
			}
			holdStory(t, c, []api.Act{refused(a), a}, []int64{6, 6, 10})
			for _, keep := range []int{math.MinInt, -1, 0, 1, all - 1} {
				holdStory(t, c, []api.Act{torn(a, keep), a, restart(who), a}, []int64{6, 6, 6, 6, 10})
			}
			for _, keep := range []int{all, all + 1, whole} {
				holdStory(t, c, []api.Act{torn(a, keep), a, restart(who), a}, []int64{6, 10, 10, 10, 14})
			}
			for _, fault := range []int{-1, 3, math.MinInt, math.MaxInt} {
				odd := a
				odd.Fault = fault
				holdStory(t, c, []api.Act{odd}, []int64{6, 10})
			}
			holdStory(t, c, []api.Act{crash(who), a}, []int64{6, 6, 6})
		}
	}
}

// TestRequests: P20.2, what is asked for: answered at once, or waiting; refused by the node or the disk, torn with nothing, too little and all kept, at a site that isn't Up.
func TestRequests(t *testing.T) {
	for _, n := range sizes {
		c := config(n)
		c.K = 10 * int64(n)
		k := c.K
		for _, who := range []int{0, n - 1} {
			a, much := dec(who, 4), dec(who, 500)
			all := size(t, c, nil, a)
			holdStory(t, c, []api.Act{a}, []int64{k, k - 4}, answer(1, who, 4, 0, 0, api.OK))
			holdStory(t, c, []api.Act{a, dec(who, 6)}, []int64{k, k - 4, k - 10}, answer(1, who, 4, 0, 0, api.OK), answer(2, who, 6, 1, 1, api.OK))
			holdStory(t, c, []api.Act{much, a, a, a, a}, []int64{k, k, k, k, k, k}, answer(1, who, 500, 0, -1, api.OK), answer(2, who, 4, 1, -1, api.OK), answer(3, who, 4, 2, -1, api.OK))
			for _, amount := range []int64{0, -1, mostAmount + 1, math.MinInt64, math.MaxInt64} {
				holdStory(t, c, []api.Act{dec(who, amount)}, []int64{k, k})
			}
			holdStory(t, c, []api.Act{refused(a), a}, []int64{k, k, k - 4}, answer(1, who, 4, 1, 1, api.OK))
			for _, keep := range []int{math.MinInt, -1, 0, 1, all - 1} {
				// It never came to be: the next one has its time.
				holdStory(t, c, []api.Act{torn(a, keep), a, restart(who), dec(who, 3)}, []int64{k, k, k, k, k - 3}, answer(1, who, 3, 3, 3, api.OK))
			}
			for _, keep := range []int{all, all + 1, whole} {
				marks := holdStory(t, c, []api.Act{torn(a, keep), a, restart(who), dec(who, 3)}, []int64{k, k - 4, k - 4, k - 4, k - 7},
					answer(1, who, 4, 0, 0, api.OK), answer(2, who, 3, 3, 3, api.OK))
				if marks[0].Code != api.Down || marks[0].Id != (api.Stamp{}) || len(marks[0].Outs) != 0 || len(marks[2].Outs) != 1 {
					t.Errorf("P20.2: the marks are %+v", marks)
				}
			}
			holdStory(t, c, []api.Act{torn(much, whole), restart(who)}, []int64{k, k, k}, answer(1, who, 500, 0, -1, api.OK))
			holdStory(t, c, []api.Act{crash(who), a}, []int64{k, k, k})
		}
	}
}

// TestAnew: P20.2, a request that is torn while its tape is begun anew never came to be, however much was kept; ahead of that, and behind it, with all kept, it did.
func TestAnew(t *testing.T) {
	for _, n := range []int{1, 2} {
		c := config(n)
		c.Q, c.K = 1, 1000
		anew := 0
		acts, values, answers := []api.Act{}, []int64{c.K}, []ledger.Answer{}
		for i := range 60 {
			x := behind(t, c, acts...)
			a := dec(0, 1)
			left, came := c.K-int64(i)-1, answer(int64(i+1), 0, 1, i, i, api.OK)
			if len(x.Sites[0].Tape.Main.Sure)+size(t, c, acts, a) > book.Bound(c) {
				anew++
				late := answer(int64(i+1), 0, 2, i+2, i+2, api.OK)
				holdStory(t, c, append(acts[:i:i], torn(a, whole), restart(0), dec(0, 2)), append(values[:i+1:i+1], left+1, left+1, left-1), append(answers[:i:i], late)...)
			} else {
				holdStory(t, c, append(acts[:i:i], torn(a, whole), restart(0)), append(values[:i+1:i+1], left, left), append(answers[:i:i], came)...)
			}
			acts, values, answers = append(acts, a), append(values, left), append(answers, came)
		}
		if anew < 1 {
			t.Errorf("too few tapes began anew: %d", anew)
		}
	}
}

// TestNoSuchActs: P20.2, acts at no site, of no Kind there is, and at sites that aren't Up do nothing; who stands in an act about a message plays no part.
func TestNoSuchActs(t *testing.T) {
	for _, n := range sizes {
		c := config(n)
		c.K = 10 * int64(n)
		acts := []api.Act{dec(n-1, 4)}
		for _, who := range farWhos(n) {
			acts = append(acts, inc(who, 1), dec(who, 1), tick(who), crash(who), restart(who), api.Act{Kind: api.DoRead, Who: who}, torn(dec(who, 1), whole), torn(inc(who, 1), whole))
		}
		for _, kind := range []int{0, -1, 10, 11, math.MinInt, math.MaxInt} {
			acts = append(acts, api.Act{Kind: kind, Amount: 1}, api.Act{Kind: kind, Who: n - 1, Amount: 1, Fault: 2, Keep: whole})
		}
		acts = append(acts, crash(n-1), inc(n-1, 1), dec(n-1, 1), tick(n-1), crash(n-1), restart(n-1), restart(n-1), dec(n-1, 3))
		last := len(acts) - 1
		values := []int64{c.K}
		for range last {
			values = append(values, c.K-4)
		}
		holdStory(t, c, acts, append(values, c.K-7), answer(1, n-1, 4, 0, 0, api.OK), answer(2, n-1, 3, last, last, api.OK))
	}
	c := config(2)
	for _, who := range farWhos(2) {
		acts := []api.Act{dec(0, 5), tick(0), deliver(0), tick(1), deliver(0)}
		acts[2].Who, acts[4].Who = who, who
		holdStory(t, c, acts, []int64{6, 6, 6, 6, 6, 1}, answer(1, 0, 5, 0, 4, api.OK))
	}
}
