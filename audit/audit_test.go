package audit_test

import (
	"math"
	"math/rand"
	"reflect"
	"slices"
	"testing"

	"coffers/api"
	"coffers/audit"
	"coffers/claim"
	"coffers/rights"
)

// The greatest amount and the greatest time that may be.
const (
	mostAmount = 1 << 40
	mostTime   = 1 << 50
)

// badTimes and badAmounts are such as may not be, 0 aside: the ones next to those that may be, the ends of 64 bits, and such as would come out as another one in fewer bits.
var (
	badTimes   = []int64{-1, -2, mostTime + 1, mostTime + 2, 2 * mostTime, -mostTime, -1 << 32, 1 << 62, math.MinInt64, math.MinInt64 + 1, math.MaxInt64 - 1, math.MaxInt64}
	badAmounts = []int64{-1, -2, mostAmount + 1, mostAmount + 2, 2 * mostAmount, mostTime, -mostAmount, -1 << 32, 1 << 62, math.MinInt64, math.MaxInt64}
)

// look is the one that the audits of these tests have, in a phase.
func look(phase int) api.Look { return api.Look{Try: 7, Phase: phase} }

// farWhos are no replicas of n.
func farWhos(n int) []int {
	return []int{-1, -2, -n, -1 << 32, n, n + 1, n + 16, n + 1<<32, 1 << 62, math.MinInt, math.MinInt + n, math.MaxInt}
}

// config is one of n replicas, whose shares, and what each may put in, are above all that these tests use.
func config(n int) api.Config {
	return api.Config{N: n, Q: 2, R: 2, P: 3, K: 1600, C: 60}
}

// wrongConfigs are some that may not be, of 3 replicas where they can: one thing is wrong with each.
func wrongConfigs() []api.Config {
	list := []api.Config{{}}
	for _, spoil := range []func(c *api.Config){
		func(c *api.Config) { c.N = 0 },
		func(c *api.Config) { c.N = -3 },
		func(c *api.Config) { c.N = 17 },
		func(c *api.Config) { c.N = math.MinInt },
		func(c *api.Config) { c.N = math.MaxInt },
		func(c *api.Config) { c.Q = 0 },
		func(c *api.Config) { c.Q = 9 },
		func(c *api.Config) { c.R = -1 },
		func(c *api.Config) { c.R = 9 },
		func(c *api.Config) { c.P = 0 },
		func(c *api.Config) { c.P = 17 },
		func(c *api.Config) { c.K = -1 },
		func(c *api.Config) { c.K = mostAmount + 1 },
		func(c *api.Config) { c.C = -1 },
		func(c *api.Config) { c.C = mostAmount },
		func(c *api.Config) { c.C = math.MaxInt64 },
	} {
		c := config(3)
		spoil(&c)
		list = append(list, c)
	}
	return list
}

// books are right ones, in which each used, and put in, another amount.
func books(c api.Config) []api.Row {
	l := rights.New(c)
	for of := range l {
		l[of].Use, l[of].Inc = int64(10+of), int64(30+of)
	}
	return l
}

// used are the books in which who used that much, and put in that much.
func used(c api.Config, who int, use, inc int64) []api.Row {
	l := books(c)
	l[who].Use, l[who].Inc = use, inc
	return l
}

// wrongBooks are such as aren't right, by a config of 3 or more: one thing is wrong with each.
func wrongBooks(c api.Config) [][]api.Row {
	list := [][]api.Row{nil, {}, books(c)[1:], append(books(c), api.Row{Out: make([]int64, c.N)})}
	for _, spoil := range []func(l []api.Row){
		func(l []api.Row) { l[0].Use = -1 },
		func(l []api.Row) { l[1].Use = mostAmount + 1 },
		func(l []api.Row) { l[2].Use = 1700 },
		func(l []api.Row) { l[0].Inc = -1 },
		func(l []api.Row) { l[1].Inc = c.C + 1 },
		func(l []api.Row) { l[2].Out = nil },
		func(l []api.Row) { l[0].Out[0] = 1 },
		func(l []api.Row) { l[1].Out[0] = -1 },
		func(l []api.Row) { l[2].Out[0] = 1700 },
	} {
		l := books(c)
		spoil(l)
		list = append(list, l)
	}
	return list
}

// run is an audit that runs in that phase: by it all of told told, and each used, and put in, another amount, all unlike those of books.
func run(c api.Config, phase int, told ...int) api.Audit {
	a := api.Audit{Look: look(phase), Told: make([]bool, c.N)}
	for of := range c.N {
		a.Use, a.Inc = append(a.Use, int64(100+of)), append(a.Inc, int64(200+of))
	}
	for _, of := range told {
		a.Told[of] = true
	}
	return a
}

// others are all replicas but those.
func others(c api.Config, but ...int) []int {
	var l []int
	for of := range c.N {
		if !slices.Contains(but, of) {
			l = append(l, of)
		}
	}
	return l
}

// moved is the same audit, by which something moved.
func moved(a api.Audit) api.Audit {
	a.Moved = true
	return a
}

// copied is the same audit, in memory of its own.
func copied(a api.Audit) api.Audit {
	a.Told, a.Use, a.Inc = slices.Clone(a.Told), slices.Clone(a.Use), slices.Clone(a.Inc)
	return a
}

// with is the same audit, in memory of its own, with something done to it.
func with(a api.Audit, change func(a *api.Audit)) api.Audit {
	a = copied(a)
	change(&a)
	return a
}

// letter is a message with those books, whose sender heard of that look of whom it is to.
func letter(c api.Config, from, to int, l []api.Row, heard api.Look) api.Mail {
	m := api.Mail{From: from, To: to, Clock: 9, Rows: l, Echo: make([]api.Look, max(c.N, 0))}
	if to >= 0 && to < len(m.Echo) {
		m.Echo[to] = heard
	}
	return m
}

// same: are two audits the same, lists element by element?
func same(a, b api.Audit) bool {
	return a.Look == b.Look && slices.Equal(a.Told, b.Told) && slices.Equal(a.Use, b.Use) && slices.Equal(a.Inc, b.Inc) && a.Moved == b.Moved
}

// auditMay: the words of an audit of who.
func auditMay(c api.Config, who int, a api.Audit) bool {
	if !rights.May(c) || who < 0 || who >= c.N {
		return false
	}
	if same(a, api.Audit{}) {
		return true
	}
	for _, v := range slices.Concat(a.Use, a.Inc) {
		if v < 0 || v > mostAmount {
			return false
		}
	}
	try := a.Look.Try >= 1 && a.Look.Try <= mostTime
	phase := a.Look.Phase >= 1 && a.Look.Phase <= 2
	return try && phase && len(a.Told) == c.N && len(a.Use) == c.N && len(a.Inc) == c.N && !a.Told[who]
}

// told: the words of Tell.
func told(c api.Config, who int, a api.Audit, m api.Mail) (api.Audit, api.Code) {
	if !auditMay(c, who, a) || !claim.MayMail(c, m) || m.To != who {
		return api.Audit{}, api.Arg
	}
	a = copied(a)
	if len(a.Told) == 0 || m.Echo[who].Try != a.Look.Try || m.Echo[who].Phase != a.Look.Phase || a.Told[m.From] {
		return a, api.OK
	}
	a.Told[m.From] = true
	if a.Look.Phase == 1 {
		a.Use[m.From] = m.Rows[m.From].Use
	}
	if a.Look.Phase == 2 && a.Use[m.From] != m.Rows[m.From].Use {
		a.Moved = true
	}
	if a.Look.Phase == 2 {
		a.Inc[m.From] = m.Rows[m.From].Inc
	}
	return a, api.OK
}

// all: the words of an audit by which all told.
func all(c api.Config, who int, a api.Audit) bool {
	if !auditMay(c, who, a) || len(a.Told) == 0 {
		return false
	}
	have := 1
	for of := range c.N {
		if a.Told[of] && of != who {
			have++
		}
	}
	return have == c.N
}

// next: the words of Next.
func next(c api.Config, who int, a api.Audit, l []api.Row) (api.Audit, bool) {
	if !auditMay(c, who, a) || !rights.Right(c, l) {
		return api.Audit{}, false
	}
	a = copied(a)
	if a.Look.Phase != 1 || !all(c, who, a) {
		return a, false
	}
	a.Look.Phase, a.Told = 2, make([]bool, c.N)
	a.Use[who] = l[who].Use
	return a, true
}

// ends: the words of Ends.
func ends(c api.Config, who int, a api.Audit, l []api.Row) (most int64, sure, ok bool) {
	ok = all(c, who, a) && rights.Right(c, l) && a.Look.Phase == 2
	sure = ok && !a.Moved && a.Use[who] == l[who].Use
	for of := 0; sure && of < c.N; of++ {
		if of == who {
			most += c.K + l[of].Inc - a.Use[of]
		} else {
			most += a.Inc[of] - a.Use[of]
		}
	}
	return most, sure, ok
}

// holdMay: May answers this.
func holdMay(t *testing.T, c api.Config, who int, a api.Audit, want bool) {
	t.Helper()
	if got := audit.May(c, who, a); got != want {
		t.Errorf("P15.1: May(%+v, %d, %+v): %t, want %t", c, who, a, got, want)
	}
}

// holdBegin: Begin answers this.
func holdBegin(t *testing.T, c api.Config, who int, try int64, want api.Audit, code api.Code) {
	t.Helper()
	if got, e := audit.Begin(c, who, try); !same(got, want) || e != code {
		t.Errorf("P15.1: Begin(%+v, %d, %d): %+v, %d, want %+v, %d", c, who, try, got, e, want, code)
	}
}

// holdTell: Tell answers this.
func holdTell(t *testing.T, c api.Config, who int, a api.Audit, m api.Mail, want api.Audit, code api.Code) {
	t.Helper()
	if got, e := audit.Tell(c, who, a, m); !same(got, want) || e != code {
		t.Errorf("P15.2: Tell(%+v, %d, %+v, %+v): %+v, %d, want %+v, %d", c, who, a, m, got, e, want, code)
	}
}

// holdNext: Next answers this.
func holdNext(t *testing.T, c api.Config, who int, a api.Audit, l []api.Row, want api.Audit, ok bool) {
	t.Helper()
	if got, is := audit.Next(c, who, a, l); !same(got, want) || is != ok {
		t.Errorf("P15.3: Next(%+v, %d, %+v, %+v): %+v, %t, want %+v, %t", c, who, a, l, got, is, want, ok)
	}
}

// holdEnds: Ends answers this.
func holdEnds(t *testing.T, c api.Config, who int, a api.Audit, l []api.Row, most int64, sure, ok bool) {
	t.Helper()
	if n, s, is := audit.Ends(c, who, a, l); n != most || s != sure || is != ok {
		t.Errorf("P15.4: Ends(%+v, %d, %+v, %+v): %d, %t, %t, want %d, %t, %t", c, who, a, l, n, s, is, most, sure, ok)
	}
}

// holdWrong: an audit that may not be, or is to be asked about for one that isn't there, is told, goes on, and ends nowhere.
func holdWrong(t *testing.T, c api.Config, who int, a api.Audit, l []api.Row, m api.Mail) {
	t.Helper()
	holdMay(t, c, who, a, false)
	holdTell(t, c, who, a, m, api.Audit{}, api.Arg)
	holdNext(t, c, who, a, l, api.Audit{}, false)
	holdEnds(t, c, who, a, l, 0, false, false)
}

// TestExample: alone (N 1), an audit goes on at once, and ends at once: most is the value.
func TestExample(t *testing.T) {
	c := api.Config{N: 1, Q: 1, R: 0, P: 1, K: 12, C: 5}
	l := used(c, 0, 4, 3)
	a, code := audit.Begin(c, 0, 9)
	if code != api.OK {
		t.Fatalf("P15.1: Begin: %d", code)
	}
	holdEnds(t, c, 0, a, l, 0, false, false)
	want := api.Audit{Look: api.Look{Try: 9, Phase: 2}, Told: []bool{false}, Use: []int64{4}, Inc: []int64{0}}
	holdNext(t, c, 0, a, l, want, true)
	holdNext(t, c, 0, want, l, want, false)
	holdEnds(t, c, 0, want, l, rights.Value(c, l), true, true)
	holdEnds(t, c, 0, want, used(c, 0, 5, 3), 0, false, true)
}

// trial is an audit, and whether it may be.
type trial struct {
	audit api.Audit
	may   bool
}

// zeroTrials are audits that are none, and ones that lack just one thing of that.
func zeroTrials(c api.Config) []trial {
	list := []trial{
		{api.Audit{}, true},
		{api.Audit{Told: []bool{}, Use: []int64{}, Inc: []int64{}}, true},
		{api.Audit{Told: []bool{}}, true},
		{api.Audit{Use: []int64{}}, true},
		{api.Audit{Inc: make([]int64, 0, 9)}, true},
		{api.Audit{Moved: true}, false},
		{api.Audit{Look: look(1)}, false},
		{api.Audit{Look: look(2)}, false},
		{api.Audit{Look: api.Look{Try: 1}}, false},
		{api.Audit{Look: api.Look{Phase: 1}}, false},
		{api.Audit{Look: api.Look{Phase: 2}}, false},
		{api.Audit{Look: api.Look{Try: -1}}, false},
		{api.Audit{Look: api.Look{Phase: -1}}, false},
	}
	for _, n := range []int{1, 2, c.N} {
		list = append(list, trial{api.Audit{Told: make([]bool, n)}, false}, trial{api.Audit{Use: make([]int64, n)}, false}, trial{api.Audit{Inc: make([]int64, n)}, false})
	}
	return append(list, trial{api.Audit{Told: make([]bool, c.N), Use: make([]int64, c.N), Inc: make([]int64, c.N)}, false})
}

// trials are audits of who: none, or running in a phase but for one thing at an edge, below it, or above.
func trials(c api.Config, who int) []trial {
	list := zeroTrials(c)
	add := func(may bool, change func(a *api.Audit)) {
		for _, a := range []api.Audit{run(c, 1), run(c, 2), run(c, 1, others(c, who)...), run(c, 2, others(c, who)...), moved(run(c, 1)), moved(run(c, 2))} {
			list = append(list, trial{with(a, change), may})
		}
	}
	add(true, func(a *api.Audit) {})
	for _, try := range []int64{1, 2, mostTime - 1, mostTime} {
		add(true, func(a *api.Audit) { a.Look.Try = try })
	}
	for _, try := range append([]int64{0}, badTimes...) {
		add(false, func(a *api.Audit) { a.Look.Try = try })
	}
	for _, phase := range []int{0, 3, 4, -1, -2, 1 << 32, 1<<32 + 1, math.MinInt, math.MinInt + 1, math.MaxInt} {
		add(false, func(a *api.Audit) { a.Look.Phase = phase })
	}
	for n := range 20 {
		add(n == c.N, func(a *api.Audit) { a.Told = make([]bool, n) })
		add(n == c.N, func(a *api.Audit) { a.Use = make([]int64, n) })
		add(n == c.N, func(a *api.Audit) { a.Inc = make([]int64, n) })
	}
	add(false, func(a *api.Audit) { a.Told = nil })
	add(false, func(a *api.Audit) { a.Use = nil })
	add(false, func(a *api.Audit) { a.Inc = nil })
	add(false, func(a *api.Audit) { a.Look = api.Look{} })
	for of := range c.N {
		add(of != who, func(a *api.Audit) { a.Told[of] = true })
		for _, v := range []int64{0, 1, mostAmount - 1, mostAmount} {
			add(true, func(a *api.Audit) { a.Use[of] = v })
			add(true, func(a *api.Audit) { a.Inc[of] = v })
		}
		for _, v := range badAmounts {
			add(false, func(a *api.Audit) { a.Use[of] = v })
			add(false, func(a *api.Audit) { a.Inc[of] = v })
		}
	}
	return list
}

// TestMay: P15.1, each part of an audit at its edges, below and above them, of each replica, for N of 1, 2 and more; what may not be is told nothing, and goes on and ends nowhere.
func TestMay(t *testing.T) {
	for _, n := range []int{1, 2, 3, 16} {
		c := config(n)
		for _, who := range []int{0, n / 2, n - 1} {
			m := letter(c, (who+1)%n, who, books(c), look(1))
			for _, x := range trials(c, who) {
				holdMay(t, c, who, x.audit, x.may)
				if !x.may {
					holdWrong(t, c, who, x.audit, books(c), m)
				}
			}
		}
	}
}

// TestMayHowMany: P15.1, each of Told, Use and Inc has as many elements as there are replicas, for each N that may be; the room behind a list plays no part.
func TestMayHowMany(t *testing.T) {
	for n := 1; n <= 16; n++ {
		c := config(n)
		for code := range 27 {
			told, use, inc := n+code%3-1, n+code/3%3-1, n+code/9-1
			a := api.Audit{Look: look(1 + code%2), Told: make([]bool, told+3)[:told], Use: make([]int64, use+3)[:use], Inc: make([]int64, inc+3)[:inc]}
			holdMay(t, c, n-1, a, told == n && use == n && inc == n)
		}
	}
}

// TestWho: P15.1, an audit by which who itself told is none of who's; below 0 and above the last one is no replica.
func TestWho(t *testing.T) {
	for n := 1; n <= 16; n++ {
		c := config(n)
		for who := range n {
			holdMay(t, c, who, api.Audit{}, true)
			for of := range n {
				holdMay(t, c, who, run(c, 1, others(c, of)...), who == of)
				holdMay(t, c, who, run(c, 2, of), who != of)
			}
		}
		for _, who := range farWhos(n) {
			if who >= 0 && who < n {
				continue
			}
			m := letter(c, 0, who, books(c), api.Look{})
			for _, a := range []api.Audit{{}, run(c, 1), run(c, 2), run(c, 1, others(c)...), run(c, 2, others(c)...)} {
				holdWrong(t, c, who, a, books(c), m)
			}
			for _, try := range []int64{0, 1, mostTime} {
				holdBegin(t, c, who, try, api.Audit{}, api.Arg)
			}
		}
	}
}

// TestWrongConfigs: P15.1 to P15.4, by a config that may not be there is no audit, not even one that is none.
func TestWrongConfigs(t *testing.T) {
	good := config(3)
	for _, c := range wrongConfigs() {
		for _, who := range []int{-1, 0, 1, 2, 3} {
			for _, a := range []api.Audit{{}, run(good, 1), run(good, 2), run(good, 1, others(good, who)...), run(good, 2, others(good, who)...)} {
				holdWrong(t, c, who, a, books(good), letter(good, (who+4)%3, who, books(good), look(1)))
				holdWrong(t, c, who, a, nil, api.Mail{From: 1, To: who, Clock: 1})
			}
			for _, try := range []int64{0, 1, 7, mostTime} {
				holdBegin(t, c, who, try, api.Audit{}, api.Arg)
			}
		}
	}
	holdMay(t, good, 0, run(good, 1), true)
}

// TestBegin: P15.1, an audit that begins is of that try, in the first phase, and knows nothing; tries at their edges, below and above them.
func TestBegin(t *testing.T) {
	for n := 1; n <= 16; n++ {
		c := config(n)
		for who := range n {
			for _, try := range []int64{1, 2, 7, mostTime - 1, mostTime} {
				want := api.Audit{Look: api.Look{Try: try, Phase: 1}, Told: make([]bool, n), Use: make([]int64, n), Inc: make([]int64, n)}
				holdBegin(t, c, who, try, want, api.OK)
				holdMay(t, c, who, want, true)
			}
			for _, try := range append([]int64{0}, badTimes...) {
				holdBegin(t, c, who, try, api.Audit{}, api.Arg)
			}
		}
	}
}

// TestTellEcho: P15.2, an audit is told by what echoes just its look, of whom it is; what the sender looks at itself, and what it heard of others, plays no part.
func TestTellEcho(t *testing.T) {
	for _, n := range []int{2, 3, 16} {
		c := config(n)
		for _, who := range []int{0, n / 2, n - 1} {
			for _, from := range others(c, who) {
				for phase := 1; phase <= 2; phase++ {
					a := run(c, phase)
					for _, heard := range []api.Look{{}, {Try: 6, Phase: phase}, {Try: 8, Phase: phase}, {Try: 1, Phase: phase}, {Try: mostTime, Phase: phase}, look(3 - phase)} {
						m := letter(c, from, who, books(c), heard)
						holdTell(t, c, who, a, m, a, api.OK)
						m.Look = a.Look
						for _, of := range others(c, who, from) {
							m.Echo[of] = a.Look
						}
						holdTell(t, c, who, a, m, a, api.OK)
					}
					m := letter(c, from, who, books(c), a.Look)
					want, _ := told(c, who, a, m)
					if !want.Told[from] {
						t.Fatal("the test's own words: not told")
					}
					holdTell(t, c, who, a, m, want, api.OK)
					m.Look = api.Look{Try: 3, Phase: 3 - phase}
					for _, of := range others(c, who, from) {
						m.Echo[of] = api.Look{Try: 4, Phase: 1}
					}
					holdTell(t, c, who, a, m, want, api.OK)
				}
			}
		}
	}
}

// TestTellFirst: P15.2, in the first phase the sender's Use is that of its row, whatever it was; nothing else changes, but that it told.
func TestTellFirst(t *testing.T) {
	c := config(3)
	for from := range 2 {
		for _, was := range []int64{0, 1, 10, mostAmount} {
			for _, is := range []int64{0, 1, 9, 10, 11, 400} {
				for _, a := range []api.Audit{run(c, 1), moved(run(c, 1)), run(c, 1, 1-from), moved(run(c, 1, 1-from))} {
					a.Use[from] = was
					want := with(a, func(a *api.Audit) { a.Told[from], a.Use[from] = true, is })
					holdTell(t, c, 2, a, letter(c, from, 2, used(c, from, is, 33), a.Look), want, api.OK)
				}
			}
		}
	}
}

// TestTellSecond: P15.2, in the second phase the sender's Inc is that of its row, its Use stays, and something moved, if its row has a smaller or a greater one, or if it did already.
func TestTellSecond(t *testing.T) {
	c := config(3)
	for from := range 2 {
		for _, was := range []int64{0, 1, 10, 11, 400, mostAmount} {
			for _, is := range []int64{0, 1, 9, 10, 11, 400} {
				for _, inc := range []int64{0, 1, 59, 60} {
					for _, a := range []api.Audit{run(c, 2), moved(run(c, 2)), run(c, 2, 1-from), moved(run(c, 2, 1-from))} {
						a.Use[from] = was
						want := with(a, func(a *api.Audit) {
							a.Told[from], a.Inc[from], a.Moved = true, inc, a.Moved || was != is
						})
						holdTell(t, c, 2, a, letter(c, from, 2, used(c, from, is, inc), a.Look), want, api.OK)
					}
				}
			}
		}
	}
}

// TestTellMoved: P15.2, what moved by one message stays so behind others, whatever these tell.
func TestTellMoved(t *testing.T) {
	c := config(4)
	for at := range 4 {
		a := run(c, 2)
		for from := 1; from < 4; from++ {
			use := a.Use[from]
			if from == at {
				use++
			}
			m := letter(c, from, 0, used(c, from, use, int64(40+from)), look(2))
			want := with(a, func(a *api.Audit) {
				a.Told[from], a.Inc[from], a.Moved = true, int64(40+from), at > 0 && from >= at
			})
			holdTell(t, c, 0, a, m, want, api.OK)
			a, _ = audit.Tell(c, 0, a, m)
		}
	}
}

// TestTellTwice: P15.2, a sender that told already tells nothing new, in either phase; what its row had when it told first counts.
func TestTellTwice(t *testing.T) {
	for _, n := range []int{2, 3, 16} {
		c := config(n)
		for _, who := range []int{0, n - 1} {
			for _, from := range others(c, who) {
				for phase := 1; phase <= 2; phase++ {
					for _, a := range []api.Audit{run(c, phase, from), moved(run(c, phase, from)), run(c, phase, others(c, who)...)} {
						for _, use := range []int64{0, a.Use[from] - 1, a.Use[from], a.Use[from] + 1} {
							holdTell(t, c, who, a, letter(c, from, who, used(c, from, use, 60), a.Look), a, api.OK)
						}
					}
				}
			}
		}
	}
}

// TestTellNone: P15.2, an audit that is none stays so, also where the echo is none.
func TestTellNone(t *testing.T) {
	c := config(3)
	for _, a := range []api.Audit{{}, {Told: []bool{}, Use: []int64{}, Inc: []int64{}}} {
		for _, heard := range []api.Look{{}, look(1), look(2)} {
			holdTell(t, c, 0, a, letter(c, 1, 0, books(c), heard), api.Audit{}, api.OK)
		}
	}
}

// TestTellWrongMail: P15.2, a message that may not be tells nothing, nor one that isn't to who, whoever else it may be to.
func TestTellWrongMail(t *testing.T) {
	c := config(3)
	for phase := 1; phase <= 2; phase++ {
		for _, a := range []api.Audit{{}, run(c, phase), run(c, phase, 2), run(c, phase, 0, 2)} {
			wrong := []api.Mail{{}, letter(c, 2, 0, books(c), look(phase)), letter(c, 1, 0, books(c), look(phase)), letter(c, 1, 2, books(c), look(phase)), letter(c, 1, 1, books(c), look(phase))}
			for _, l := range wrongBooks(c) {
				wrong = append(wrong, letter(c, 2, 1, l, look(phase)))
			}
			for _, spoil := range []func(m *api.Mail){
				func(m *api.Mail) { m.Clock = 0 },
				func(m *api.Mail) { m.Clock = mostTime + 1 },
				func(m *api.Mail) { m.From = -1 },
				func(m *api.Mail) { m.From = 3 },
				func(m *api.Mail) { m.To = -1 },
				func(m *api.Mail) { m.To = 3 },
				func(m *api.Mail) { m.Head = api.Request{Amount: 1} },
				func(m *api.Mail) { m.Asks = 3 },
				func(m *api.Mail) { m.Asks = -1 },
				func(m *api.Mail) { m.Look = api.Look{Try: 1} },
				func(m *api.Mail) { m.Echo = nil },
				func(m *api.Mail) { m.Echo = m.Echo[:2] },
				func(m *api.Mail) { m.Echo = append(m.Echo, api.Look{}) },
				func(m *api.Mail) { m.Echo[2] = look(1) },
				func(m *api.Mail) { m.Echo[0] = api.Look{Phase: 1} },
				func(m *api.Mail) { m.Echo[1] = api.Look{Try: 7, Phase: 3} },
			} {
				m := letter(c, 2, 1, books(c), look(phase))
				spoil(&m)
				wrong = append(wrong, m)
			}
			for _, m := range wrong {
				holdTell(t, c, 1, a, m, api.Audit{}, api.Arg)
			}
		}
	}
}

// somebody are the audits of who in that phase by which nobody told, all but one, and each alone.
func somebody(c api.Config, who, phase int) []api.Audit {
	list := []api.Audit{{}}
	for _, of := range others(c, who) {
		list = append(list, run(c, phase), run(c, phase, of), run(c, phase, others(c, who, of)...), moved(run(c, phase, others(c, who, of)...)))
	}
	if c.N != 2 {
		return list
	}
	// Of two, each alone is all.
	return slices.DeleteFunc(list, func(a api.Audit) bool { return len(a.Told) > 0 && a.Told[1-who] })
}

// TestNext: P15.3, where all told in the first phase, the second one begins: nobody told, one's own Use is that of one's row, all else stays; else the audit is as it is.
func TestNext(t *testing.T) {
	for n := 1; n <= 16; n++ {
		c := config(n)
		for who := range n {
			for _, a := range []api.Audit{run(c, 1, others(c, who)...), moved(run(c, 1, others(c, who)...))} {
				for _, use := range []int64{0, 1, 99, 100} {
					want := with(a, func(a *api.Audit) { a.Look.Phase, a.Told, a.Use[who] = 2, make([]bool, n), use })
					holdNext(t, c, who, a, used(c, who, use, 33), want, true)
				}
				again := with(a, func(a *api.Audit) { a.Look.Phase = 2 })
				holdNext(t, c, who, again, books(c), again, false)
			}
			for _, a := range slices.Concat(somebody(c, who, 1), somebody(c, who, 2)) {
				holdNext(t, c, who, a, books(c), a, false)
			}
		}
	}
}

// TestNextWrong: P15.3, by books that aren't right there is none, whatever the audit is.
func TestNextWrong(t *testing.T) {
	c := config(3)
	for _, l := range wrongBooks(c) {
		for _, a := range []api.Audit{{}, run(c, 1), run(c, 1, 1), run(c, 1, 1, 2), run(c, 2), run(c, 2, 1, 2)} {
			holdNext(t, c, 0, a, l, api.Audit{}, false)
			holdEnds(t, c, 0, a, l, 0, false, false)
		}
	}
}

// TestEnds: P15.4, where all told in the second phase, it is so far: sure, if nothing moved, and one's own Use is still that of the audit; most is by the audit, but for what one put in oneself.
func TestEnds(t *testing.T) {
	for n := 1; n <= 16; n++ {
		c := config(n)
		for who := range n {
			a := run(c, 2, others(c, who)...)
			a.Use[who] = 80
			most := int64(1600)
			for _, of := range others(c, who) {
				most += int64(200+of) - int64(100+of)
			}
			for _, inc := range []int64{0, 1, 30, 60} {
				for _, use := range []int64{0, 79, 80, 81} {
					if sure := use == 80; sure {
						holdEnds(t, c, who, a, used(c, who, use, inc), most+inc-80, true, true)
					} else {
						holdEnds(t, c, who, a, used(c, who, use, inc), 0, false, true)
					}
					holdEnds(t, c, who, moved(a), used(c, who, use, inc), 0, false, true)
					first := with(a, func(a *api.Audit) { a.Look.Phase = 1 })
					holdEnds(t, c, who, first, used(c, who, use, inc), 0, false, false)
				}
			}
			for _, a := range slices.Concat(somebody(c, who, 1), somebody(c, who, 2)) {
				if len(a.Use) > 0 {
					a.Use[who] = 10 + int64(who)
				}
				holdEnds(t, c, who, a, books(c), 0, false, false)
			}
		}
	}
}

// TestEndsOthers: P15.4, what the books tell of others plays no part: by the audit alone they count.
func TestEndsOthers(t *testing.T) {
	c := config(4)
	a := run(c, 2, others(c, 1)...)
	a.Use[1] = 80
	want := int64(1600 + 30 - 80 + 3*100)
	for _, of := range others(c, 1) {
		for _, v := range []int64{0, 1, 50, 60} {
			l := used(c, 1, 80, 30)
			l[of].Use, l[of].Inc, l[of].Out[1] = 7*v, v, v/2
			holdEnds(t, c, 1, a, l, want, true, true)
		}
	}
}

// TestEndsGreatest: P15.4, all uses and all increments at their greatest, alone and together, for N of 1, 2 and as many as may be; and what there was at first, and what one put in, at theirs.
func TestEndsGreatest(t *testing.T) {
	for _, n := range []int{1, 2, 3, 16} {
		for who := range n {
			c := api.Config{N: n, Q: 1, P: 1, K: mostAmount}
			l := rights.New(c)
			a := api.Audit{Look: api.Look{Try: mostTime, Phase: 2}, Told: make([]bool, n), Use: make([]int64, n), Inc: make([]int64, n)}
			for _, of := range others(c, who) {
				a.Told[of] = true
				l[of].Out[who] = rights.Share(c, of)
			}
			holdEnds(t, c, who, a, l, mostAmount, true, true)
			uses, incs := copied(a), copied(a)
			for of := range n {
				uses.Use[of], incs.Inc[of] = mostAmount, mostAmount
			}
			holdEnds(t, c, who, incs, l, mostAmount*int64(n), true, true)
			holdEnds(t, c, who, uses, l, 0, false, true)
			l[who].Use = mostAmount
			holdEnds(t, c, who, uses, l, mostAmount-mostAmount*int64(n), true, true)
			uses.Inc = incs.Inc
			holdEnds(t, c, who, uses, l, 0, true, true)

			c = api.Config{N: n, Q: 1, P: 1, C: mostAmount / int64(n)}
			l = rights.New(c)
			l[who].Inc = c.C
			holdEnds(t, c, who, a, l, c.C, true, true)
			holdEnds(t, c, who, incs, l, c.C+mostAmount*int64(n-1), true, true)
		}
	}
}

// drawnAudit is one of who, at times one by which all told, at times spoilt.
func drawnAudit(draw *rand.Rand, c api.Config, who int) api.Audit {
	if draw.Intn(8) == 0 {
		all := trials(c, who)
		return all[draw.Intn(len(all))].audit
	}
	a := run(c, 1+draw.Intn(2), others(c, who)...)
	a.Moved = draw.Intn(3) == 0
	for of := range c.N {
		a.Use[of], a.Inc[of] = draw.Int63n(3), draw.Int63n(3)
		if draw.Intn(c.N) == 0 {
			a.Told[of] = false
		}
	}
	return a
}

// drawnBooks are such in which little is used, and put in, at times spoilt.
func drawnBooks(draw *rand.Rand, c api.Config) []api.Row {
	l := rights.New(c)
	for of := range l {
		l[of].Use, l[of].Inc, l[of].Out[(of+1)%c.N] = draw.Int63n(3), draw.Int63n(3), draw.Int63n(2)
	}
	if c.N == 1 {
		l[0].Out[0] = 0
	}
	if draw.Intn(20) == 0 {
		l[draw.Intn(c.N)].Use = -1
	}
	return l
}

// drawnMail is a message to who, at times to another one, or spoilt; its echo is mostly the audit's look.
func drawnMail(draw *rand.Rand, c api.Config, who int, a api.Audit) api.Mail {
	m := letter(c, draw.Intn(c.N), who, drawnBooks(draw, c), a.Look)
	for range 6 { // rather one that hasn't told yet
		if len(a.Told) > m.From && a.Told[m.From] {
			m.From = draw.Intn(c.N)
		}
	}
	switch draw.Intn(12) {
	case 0:
		m.Echo[who] = api.Look{}
	case 1:
		m.Echo[who].Try++
	case 2:
		m.Echo[who].Phase = 3 - m.Echo[who].Phase
	case 3:
		m.To = draw.Intn(c.N+2) - 1
	case 4:
		m.Clock = 0
	}
	return m
}

// TestByWords: P15.1 to P15.4, drawn audits, messages and books, right and spoilt: each call comes to what the words say.
func TestByWords(t *testing.T) {
	draw := rand.New(rand.NewSource(1))
	seen := map[string]int{}
	for range 20000 {
		c := config(1 + draw.Intn(5))
		who := draw.Intn(c.N)
		a, l := drawnAudit(draw, c, who), drawnBooks(draw, c)
		m := drawnMail(draw, c, who, a)
		may := auditMay(c, who, a)
		holdMay(t, c, who, a, may)
		want, code := told(c, who, a, m)
		holdTell(t, c, who, a, m, want, code)
		then, on := next(c, who, a, l)
		holdNext(t, c, who, a, l, then, on)
		most, sure, ok := ends(c, who, a, l)
		holdEnds(t, c, who, a, l, most, sure, ok)
		for name, is := range map[string]bool{"may": may, "may not": !may, "told": code == api.OK && !same(a, want), "moved": code == api.OK && want.Moved && !a.Moved, "as it was": code == api.OK && same(a, want), "arg": code == api.Arg, "next": on, "ends": ok, "sure": sure} {
			if is {
				seen[name]++
			}
		}
	}
	for _, name := range []string{"may", "may not", "told", "moved", "as it was", "arg", "next", "ends", "sure"} {
		if seen[name] < 500 {
			t.Errorf("the test's own draws: %q only %d times", name, seen[name])
		}
	}
}

// TestStaysMay: P15.1 to P15.3, what may be stays so, whatever it is told, and when it goes on.
func TestStaysMay(t *testing.T) {
	draw := rand.New(rand.NewSource(2))
	for n := 1; n <= 16; n++ {
		c := config(n)
		for range 100 {
			who := draw.Intn(n)
			a := drawnAudit(draw, c, who)
			if !audit.May(c, who, a) {
				continue
			}
			if b, code := audit.Tell(c, who, a, drawnMail(draw, c, who, a)); code == api.OK {
				holdMay(t, c, who, b, true)
				a = b
			}
			b, _ := audit.Next(c, who, a, drawnBooks(draw, c))
			holdMay(t, c, who, b, true)
		}
	}
}

// cluster is some replicas, of which the first one looks at all books, and what really is there.
type cluster struct {
	t      *testing.T
	draw   *rand.Rand
	config api.Config
	books  [][]api.Row // as each knows them
	heard  []api.Note  // what each heard of the first one last: its clock, and its look
	clock  int64
	mail   []api.Mail
	audit  api.Audit
	least  int64 // the least value since the second phase began, as long as nobody answered it
	open   bool  // whether nobody did yet
	sure   int
	unsure int
	tight  int // how often what was sure was the value itself, at that moment
}

// value is what really is there, by what each wrote itself.
func (u *cluster) value() int64 {
	sum := u.config.K
	for of, l := range u.books {
		sum += l[of].Inc - l[of].Use
	}
	return sum
}

// watch: a moment goes by.
func (u *cluster) watch() {
	if u.open {
		u.least = min(u.least, u.value())
	}
}

// act: somebody puts in, takes out, or moves to another one.
func (u *cluster) act() {
	of, to, amount := u.draw.Intn(u.config.N), u.draw.Intn(u.config.N), 1+u.draw.Int63n(3)
	var l []api.Row
	code := api.Arg
	switch u.draw.Intn(3) {
	case 0:
		l, code = rights.Put(u.config, u.books[of], of, amount)
	case 1:
		l, code = rights.Take(u.config, u.books[of], of, amount)
	case 2:
		l, code = rights.Move(u.config, u.books[of], of, to, amount)
	}
	if code == api.OK {
		u.books[of] = l
	}
}

// send: a message is on its way.
func (u *cluster) send() {
	from := u.draw.Intn(u.config.N)
	to := (from + 1 + u.draw.Intn(u.config.N-1)) % u.config.N
	u.clock++
	m := letter(u.config, from, to, u.books[from], api.Look{})
	m.Clock = u.clock
	if from == 0 {
		m.Look = u.audit.Look
	} else {
		m.Echo[0] = u.heard[from].Look
		if m.To == 0 && m.Echo[0] == u.audit.Look && u.audit.Look.Phase == 2 {
			u.open = false
		}
	}
	u.mail = append(u.mail, m)
}

// deliver: a message comes, in any order, at times lost, at times left to come again.
func (u *cluster) deliver() {
	if len(u.mail) == 0 {
		return
	}
	at := u.draw.Intn(len(u.mail))
	m := u.mail[at]
	if u.draw.Intn(4) > 0 {
		u.mail = slices.Delete(u.mail, at, at+1)
	}
	if u.draw.Intn(8) == 0 {
		return
	}
	l, code := rights.Join(u.config, u.books[m.To], m.Rows)
	if code != api.OK {
		u.t.Fatalf("the test's own cluster: Join: %d", code)
	}
	u.books[m.To] = l
	if m.From == 0 && m.Clock > u.heard[m.To].Clock {
		u.heard[m.To] = api.Note{Clock: m.Clock, Look: m.Look}
	}
	if m.To == 0 {
		u.audit, code = audit.Tell(u.config, 0, u.audit, m)
		if code != api.OK {
			u.t.Fatalf("P15.2: Tell: %d", code)
		}
	}
}

// look: the first one's audit begins, goes on, or ends, where it can.
func (u *cluster) look() {
	if len(u.audit.Told) == 0 {
		u.clock++
		u.audit, _ = audit.Begin(u.config, 0, u.clock)
		return
	}
	a, ok := audit.Next(u.config, 0, u.audit, u.books[0])
	if ok {
		u.least, u.open = u.value(), true
	}
	u.audit = a
	most, sure, ok := audit.Ends(u.config, 0, a, u.books[0])
	if !ok {
		return
	}
	if sure {
		u.sure++
		if u.least > most {
			u.t.Errorf("P15.5: the value was never below %d, but %d is told, by %+v", u.least, most, a)
		}
		if u.least == most {
			u.tight++
		}
	} else {
		u.unsure++
	}
	u.audit, u.open = api.Audit{}, false
}

// TestSure: P15.5, whatever befalls a cluster, messages in any order, lost or twice, there was such a moment whenever an audit is sure.
func TestSure(t *testing.T) {
	for n := 2; n <= 5; n++ {
		u := cluster{t: t, draw: rand.New(rand.NewSource(int64(n))), heard: make([]api.Note, n)}
		u.config = api.Config{N: n, Q: 1, P: 1, K: 1 << 20, C: 1 << 30}
		for range n {
			u.books = append(u.books, rights.New(u.config))
		}
		for range 300000 {
			switch k := u.draw.Intn(20 * n); {
			case k == 0:
				u.act()
			case k < 10*n:
				u.send()
			default:
				u.deliver()
			}
			u.watch()
			u.look()
			if len(u.mail) > 4*n {
				u.mail = u.mail[n:]
			}
		}
		if u.sure < 200 || u.unsure < 100 || u.tight < 100 || u.tight == u.sure {
			t.Errorf("the test's own draws: N %d: sure %d times, %d of them tight, unsure %d times", n, u.sure, u.tight, u.unsure)
		}
	}
}

// roomy is the same list with room behind it, in which such elements stand.
func roomy[T any](l []T, x T) []T {
	return append(slices.Clone(l), x, x, x, x)[:len(l)]
}

// handed are an audit, a message and books, all with spare room, none of it zero.
func handed(c api.Config, a api.Audit, phase int) (api.Audit, api.Mail, []api.Row) {
	a.Told, a.Use, a.Inc = roomy(a.Told, true), roomy(a.Use, -7), roomy(a.Inc, -8)
	rows := func() []api.Row {
		l := books(c)
		for i, r := range l {
			l[i].Out = roomy(r.Out, -7)
		}
		return roomy(l, api.Row{Inc: -9, Use: -9, Out: []int64{-9}})
	}
	m := letter(c, 2, 1, rows(), look(phase))
	m.Echo = roomy(m.Echo, api.Look{Try: -9, Phase: -9})
	return a, m, rows()
}

// rowsRoom is all that books hold, their spare room too, in memory of its own.
func rowsRoom(l []api.Row) []any {
	list := []any{len(l)}
	for _, r := range l[:cap(l)] {
		list = append(list, r.Inc, r.Use, len(r.Out), slices.Clone(r.Out[:cap(r.Out)]))
	}
	return list
}

// room is all that an audit, a message and books hold, their spare room too, in memory of its own.
func room(a api.Audit, m api.Mail, l []api.Row) []any {
	list := []any{a.Look, a.Moved, len(a.Told), len(a.Use), len(a.Inc), slices.Clone(a.Told[:cap(a.Told)]), slices.Clone(a.Use[:cap(a.Use)]), slices.Clone(a.Inc[:cap(a.Inc)])}
	list = append(list, m.From, m.To, m.Clock, m.Head, m.Asks, m.Look, len(m.Echo), slices.Clone(m.Echo[:cap(m.Echo)]))
	return append(list, rowsRoom(m.Rows), rowsRoom(l))
}

// spoil writes over all that an audit holds, its spare room too.
func spoil(a api.Audit) {
	for i := range a.Told[:cap(a.Told)] {
		a.Told[:cap(a.Told)][i] = i%2 == 0
	}
	for i := range a.Use[:cap(a.Use)] {
		a.Use[:cap(a.Use)][i] = -5
	}
	for i := range a.Inc[:cap(a.Inc)] {
		a.Inc[:cap(a.Inc)][i] = -6
	}
}

// some are audits of 1, among 3: none, in each phase, and by which nobody, one and all told.
func some(c api.Config) []api.Audit {
	list := []api.Audit{{}}
	for phase := 1; phase <= 2; phase++ {
		list = append(list, run(c, phase), run(c, phase, 0), run(c, phase, 2), run(c, phase, 0, 2), moved(run(c, phase, 0, 2)))
	}
	for _, a := range list[1:] {
		a.Use[1] = 11
	}
	return list
}

// TestStay: rules 3 and 4, what came in stays as it was, its spare room too, whatever is asked, and whatever is done to what came back; the answers hang on the arguments alone.
func TestStay(t *testing.T) {
	c := config(3)
	for _, x := range some(c) {
		for phase := 1; phase <= 2; phase++ {
			a, m, l := handed(c, x, phase)
			kept := room(a, m, l)
			for range 3 {
				want, code := told(c, 1, x, m)
				holdTell(t, c, 1, a, m, want, code)
				then, on := next(c, 1, x, l)
				holdNext(t, c, 1, a, l, then, on)
				most, sure, ok := ends(c, 1, x, l)
				holdEnds(t, c, 1, a, l, most, sure, ok)
				holdMay(t, c, 1, a, true)
				holdTell(t, c, 0, a, m, api.Audit{}, api.Arg)
				holdNext(t, c, 1, a, l[:2], api.Audit{}, false)
				got, _ := audit.Tell(c, 1, a, m)
				spoil(got)
				got, _ = audit.Next(c, 1, a, l)
				spoil(got)
				if now := room(a, m, l); !reflect.DeepEqual(now, kept) {
					t.Fatalf("rule 3: what was handed in is %+v now, want %+v", now, kept)
				}
			}
		}
	}
}

// TestAnswerStays: rules 3 and 4, what comes back isn't changed by what is done later to what was handed in, nor by other answers; nothing of that was kept.
func TestAnswerStays(t *testing.T) {
	c := config(3)
	for _, x := range some(c) {
		for phase := 1; phase <= 2; phase++ {
			a, m, l := handed(c, x, phase)
			want, _ := told(c, 1, x, m)
			then, _ := next(c, 1, x, l)
			tell, _ := audit.Tell(c, 1, a, m)
			on, _ := audit.Next(c, 1, a, l)
			for range 2 {
				other, _ := audit.Tell(c, 1, a, m)
				spoil(other)
				other, _ = audit.Next(c, 1, a, l)
				spoil(other)
			}
			spoil(a)
			for _, rows := range [][]api.Row{m.Rows, l} {
				for i := range rows {
					rows[i].Use, rows[i].Inc, rows[i].Out[0] = -5, -5, -5
				}
			}
			m.Echo[1] = api.Look{Try: -5}
			if !same(tell, want) || !same(on, then) {
				t.Errorf("rule 3: it was %+v and %+v, and is %+v and %+v now", want, then, tell, on)
			}
			holdTell(t, c, 1, x, m, api.Audit{}, api.Arg)
			holdNext(t, c, 1, x, l, api.Audit{}, false)
			holdEnds(t, c, 1, x, l, 0, false, false)
		}
	}
}

// TestApart: the lists of one answer, and those of two answers, share no memory, their spare room neither.
func TestApart(t *testing.T) {
	c := config(3)
	m, l := letter(c, 2, 1, books(c), look(1)), books(c)
	for _, answer := range []func() api.Audit{
		func() api.Audit { a, _ := audit.Begin(c, 1, 7); return a },
		func() api.Audit { a, _ := audit.Tell(c, 1, run(c, 1), m); return a },
		func() api.Audit { a, _ := audit.Tell(c, 1, run(c, 2), m); return a },
		func() api.Audit { a, _ := audit.Next(c, 1, run(c, 1, 0, 2), l); return a },
		func() api.Audit { a, _ := audit.Next(c, 1, run(c, 1), l); return a },
	} {
		want := copied(answer())
		a, b := answer(), answer()
		spoil(a)
		use, inc := slices.Repeat([]int64{-5}, 3), slices.Repeat([]int64{-6}, 3)
		if !slices.Equal(a.Use, use) || !slices.Equal(a.Inc, inc) || !same(b, want) || !same(answer(), want) {
			t.Errorf("rule 3: %+v, and another answer %+v, want %+v", a, b, want)
		}
	}
}
