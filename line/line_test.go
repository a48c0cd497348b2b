package line_test

import (
	"math"
	"math/rand"
	"slices"
	"testing"

	"coffers/api"
	"coffers/line"
)

// The greatest amount and the greatest time that may be.
const (
	mostAmount = 1 << 40
	mostTime   = 1 << 50
)

// badAmounts are such as may not be, badTimes times of stamps that may not be, badWhos no replicas of 3.
var (
	badAmounts = []int64{0, -1, mostAmount + 1, 2 * mostAmount, math.MinInt64, -mostAmount, 1 << 62, math.MaxInt64}
	badTimes   = []int64{0, -1, mostTime + 1, 2 * mostTime, math.MinInt64, -mostTime, 1 << 62, math.MaxInt64}
	badWhos    = []int{-1, 3, 4, 15, 16, -3, math.MinInt, math.MaxInt, 1 << 32, 1<<32 + 1}
)

// cluster is a config of n replicas at which q may wait.
func cluster(n, q int) api.Config { return api.Config{N: n, Q: q, R: 1, P: 1, K: 7, C: 5} }

// ask is a request, written short.
func ask(time int64, who int, amount int64) api.Request {
	return api.Request{Id: api.Stamp{Time: time, Who: who}, Amount: amount}
}

// waiting is a line of n requests of who, of times 10, 20 and so on.
func waiting(n, who int) []api.Request {
	l := make([]api.Request, n)
	for i := range l {
		l[i] = ask(int64(10*i+10), who, int64(i+1))
	}
	return l
}

// changed is the same line, in memory of its own, with another request in one place.
func changed(l []api.Request, at int, r api.Request) []api.Request {
	l = slices.Clone(l)
	l[at] = r
	return l
}

// wrongConfigs are some that may not be: one thing is wrong with each.
func wrongConfigs() []api.Config {
	list := []api.Config{{}}
	for _, spoil := range []func(c *api.Config){
		func(c *api.Config) { c.N = 0 },
		func(c *api.Config) { c.N = -3 },
		func(c *api.Config) { c.N = 17 },
		func(c *api.Config) { c.Q = 0 },
		func(c *api.Config) { c.Q = -1 },
		func(c *api.Config) { c.Q = 9 },
		func(c *api.Config) { c.Q = math.MaxInt },
		func(c *api.Config) { c.R = -1 },
		func(c *api.Config) { c.R = 9 },
		func(c *api.Config) { c.P = 0 },
		func(c *api.Config) { c.P = 17 },
		func(c *api.Config) { c.K = -1 },
		func(c *api.Config) { c.K = mostAmount + 1 },
		func(c *api.Config) { c.C = -1 },
		func(c *api.Config) { c.C = mostAmount },
		func(c *api.Config) { c.C = math.MaxInt64 },
	} {
		c := cluster(3, 4)
		spoil(&c)
		list = append(list, c)
	}
	return list
}

// amountMay, stampMay and olderThan: the words of an amount, of a stamp of who, and of older.
func amountMay(v int64) bool { return v >= 1 && v <= mostAmount }

func stampMay(s api.Stamp, who int) bool { return s.Time >= 1 && s.Time <= mostTime && s.Who == who }

func olderThan(a, b api.Stamp) bool { return a.Time < b.Time || a.Time == b.Time && a.Who < b.Who }

// lineMay: the words of a line, of a config that may be.
func lineMay(c api.Config, who int, l []api.Request) bool {
	if who < 0 || who >= c.N || len(l) > c.Q {
		return false
	}
	for i, a := range l {
		if !amountMay(a.Amount) || !stampMay(a.Id, who) {
			return false
		}
		for _, b := range l[i+1:] {
			if !olderThan(a.Id, b.Id) {
				return false
			}
		}
	}
	return true
}

// joined: the words of Join, of a config that may be.
func joined(c api.Config, who int, l []api.Request, r api.Request) ([]api.Request, api.Code) {
	switch {
	case !lineMay(c, who, l):
		return nil, api.Arg
	case !amountMay(r.Amount):
		return nil, api.Invalid
	case len(l) == c.Q:
		return nil, api.Busy
	case !stampMay(r.Id, who), len(l) > 0 && !olderThan(l[len(l)-1].Id, r.Id):
		return nil, api.Arg
	}
	return slices.Concat(l, []api.Request{r}), api.OK
}

// holdMay: May answers this.
func holdMay(t *testing.T, c api.Config, who int, l []api.Request, want bool) {
	t.Helper()
	if got := line.May(c, who, l); got != want {
		t.Errorf("P11.1: May(%+v, %d, %v): %t, want %t", c, who, l, got, want)
	}
}

// holdJoin: Join answers this.
func holdJoin(t *testing.T, c api.Config, who int, l []api.Request, r api.Request, want []api.Request, code api.Code) {
	t.Helper()
	if got, e := line.Join(c, who, l, r); !slices.Equal(got, want) || e != code {
		t.Errorf("P11.1: Join(%+v, %d, %v, %v): %v, %d, want %v, %d", c, who, l, r, got, e, want, code)
	}
}

// holdLeave: Leave answers this.
func holdLeave(t *testing.T, l []api.Request, first api.Request, rest []api.Request, ok bool) {
	t.Helper()
	if f, r, o := line.Leave(l); f != first || !slices.Equal(r, rest) || o != ok {
		t.Errorf("P11.2: Leave(%v): %v, %v, %t, want %v, %v, %t", l, f, r, o, first, rest, ok)
	}
}

// TestMayHowMany: P11.1, no request, one, Q less one, Q, one more, and far more, for each Q that may be.
func TestMayHowMany(t *testing.T) {
	for q := 1; q <= 8; q++ {
		for n := range 2*q + 3 {
			holdMay(t, cluster(3, q), 1, waiting(n, 1), n <= q)
		}
		holdMay(t, cluster(3, q), 1, waiting(5000, 1), false)
	}
	holdMay(t, cluster(1, 1), 0, nil, true)
	holdMay(t, cluster(1, 1), 0, []api.Request{}, true)
	// The room behind a line plays no part.
	holdMay(t, cluster(3, 2), 1, waiting(5, 1)[:2], true)
	holdMay(t, cluster(3, 2), 1, waiting(5, 2)[:0], true)
}

// TestMayAmounts: P11.1, the edges of the amount, in each place of a line.
func TestMayAmounts(t *testing.T) {
	c, l := cluster(3, 4), waiting(4, 1)
	for at := range l {
		for _, amount := range []int64{1, 2, mostAmount - 1, mostAmount} {
			holdMay(t, c, 1, changed(l, at, ask(l[at].Id.Time, 1, amount)), true)
		}
		for _, amount := range badAmounts {
			holdMay(t, c, 1, changed(l, at, ask(l[at].Id.Time, 1, amount)), false)
			holdMay(t, c, 1, []api.Request{ask(10, 1, amount)}, false)
		}
	}
}

// TestMayStamps: P11.1, stamps that may not be, and another replica's, in each place; the edges of the time.
func TestMayStamps(t *testing.T) {
	c, l := cluster(3, 4), waiting(4, 1)
	for at, r := range l {
		for _, time := range badTimes {
			holdMay(t, c, 1, changed(l, at, ask(time, 1, 1)), false)
			holdMay(t, c, 1, []api.Request{ask(time, 1, 1)}, false)
		}
		for _, who := range append([]int{0, 2}, badWhos...) {
			holdMay(t, c, 1, changed(l, at, ask(r.Id.Time, who, 1)), false)
			holdMay(t, c, 1, []api.Request{ask(r.Id.Time, who, 1)}, false)
		}
	}
	holdMay(t, c, 1, []api.Request{ask(1, 1, 1)}, true)
	holdMay(t, c, 1, []api.Request{ask(mostTime, 1, 1)}, true)
	holdMay(t, c, 1, []api.Request{ask(1, 1, 1), ask(2, 1, 1), ask(mostTime-1, 1, 1), ask(mostTime, 1, 1)}, true)
}

// TestMayRising: P11.1, stamps that rise everywhere but at one place, where two are alike or turned round; and amounts needn't rise.
func TestMayRising(t *testing.T) {
	for q := 2; q <= 8; q++ {
		c, l := cluster(3, q), waiting(q, 1)
		holdMay(t, c, 1, l, true)
		for at := 1; at < q; at++ {
			before := l[at-1].Id.Time
			holdMay(t, c, 1, changed(l, at, ask(before+1, 1, 1)), true)
			holdMay(t, c, 1, changed(l, at, ask(before, 1, 1)), false)
			holdMay(t, c, 1, changed(l, at, ask(before-1, 1, 1)), false)
			holdMay(t, c, 1, changed(l, at, ask(1, 1, 1)), false)
			turned := changed(l, at, l[at-1])
			turned[at-1] = l[at]
			holdMay(t, c, 1, turned, false)
		}
		for i := range l {
			l[i].Amount = int64(q - i)
		}
		holdMay(t, c, 1, l, true)
	}
}

// TestMayWho: P11.1, each replica's line is its own one alone; below 0 and above the last one is none, also where nobody waits.
func TestMayWho(t *testing.T) {
	for n := 1; n <= 16; n++ {
		c := cluster(n, 3)
		for who := -2; who <= n+2; who++ {
			is := who >= 0 && who < n
			holdMay(t, c, who, nil, is)
			for of := -1; of <= n; of++ {
				holdMay(t, c, who, waiting(2, of), is && who == of)
			}
		}
	}
	for _, who := range badWhos {
		holdMay(t, cluster(3, 3), who, nil, false)
		holdMay(t, cluster(3, 3), who, waiting(1, who), false)
	}
}

// TestWrongConfigs: P11.1, a config that may not be has no lines, also where nobody waits.
func TestWrongConfigs(t *testing.T) {
	for _, c := range wrongConfigs() {
		for n := range 4 {
			for _, who := range []int{-1, 0, 1, 2, 16} {
				holdMay(t, c, who, waiting(n, who), false)
				holdJoin(t, c, who, waiting(n, who), ask(99, who, 1), nil, api.Arg)
				holdJoin(t, c, who, waiting(n, who), ask(99, who, 0), nil, api.Arg)
			}
		}
	}
}

// TestJoin: P11.1, behind none, one, and Q less one; the edges of the amount and of the stamp.
func TestJoin(t *testing.T) {
	for q := 1; q <= 8; q++ {
		c := cluster(3, q)
		for n := range q {
			l, last := waiting(n, 1), int64(10*n)
			for _, time := range []int64{last + 1, last + 2, last + 10, mostTime - 1, mostTime} {
				for _, amount := range []int64{1, 2, mostAmount - 1, mostAmount} {
					r := ask(time, 1, amount)
					holdJoin(t, c, 1, l, r, slices.Concat(l, []api.Request{r}), api.OK)
				}
			}
		}
	}
	holdJoin(t, cluster(1, 1), 0, nil, ask(1, 0, 1), []api.Request{ask(1, 0, 1)}, api.OK)
	holdJoin(t, cluster(16, 1), 15, []api.Request{}, ask(7, 15, 3), []api.Request{ask(7, 15, 3)}, api.OK)
	// What lies in the spare room isn't what waits.
	holdJoin(t, cluster(3, 2), 1, waiting(4, 2)[:0], ask(1, 1, 1), []api.Request{ask(1, 1, 1)}, api.OK)
}

// TestJoinRefused: P11.1, each thing that is wrong alone, behind none, one, and Q less one.
func TestJoinRefused(t *testing.T) {
	c := cluster(3, 4)
	for n := range 4 {
		l, last := waiting(n, 1), int64(10*n)
		for _, amount := range badAmounts {
			holdJoin(t, c, 1, l, ask(last+5, 1, amount), nil, api.Invalid)
		}
		for _, time := range badTimes {
			holdJoin(t, c, 1, l, ask(time, 1, 1), nil, api.Arg)
		}
		for _, who := range append([]int{0, 2}, badWhos...) {
			holdJoin(t, c, 1, l, ask(last+5, who, 1), nil, api.Arg)
		}
		if n > 0 {
			holdJoin(t, c, 1, l, ask(last, 1, 1), nil, api.Arg)
			holdJoin(t, c, 1, l, ask(last-1, 1, 1), nil, api.Arg)
			holdJoin(t, c, 1, l, ask(1, 1, 1), nil, api.Arg)
			holdJoin(t, c, 1, l, ask(last, 2, 1), nil, api.Arg) // younger than the last one, but not who's
		}
	}
	holdJoin(t, c, 1, []api.Request{ask(mostTime, 1, 1)}, ask(mostTime, 1, 1), nil, api.Arg)
	for q := 1; q <= 8; q++ {
		holdJoin(t, cluster(3, q), 1, waiting(q, 1), ask(99, 1, 1), nil, api.Busy)
		holdJoin(t, cluster(3, q), 1, waiting(q+1, 1), ask(99, 1, 1), nil, api.Arg)
	}
}

// TestJoinWrongLine: P11.1, a line that may not be, and a replica that isn't there, tell Arg.
func TestJoinWrongLine(t *testing.T) {
	c, l := cluster(3, 4), waiting(3, 1)
	for at, r := range l {
		for _, bad := range []api.Request{ask(r.Id.Time, 0, 1), ask(r.Id.Time, 3, 1), ask(0, 1, 1), ask(mostTime+1, 1, 1), ask(r.Id.Time, 1, 0), ask(r.Id.Time, 1, mostAmount+1), {}} {
			holdJoin(t, c, 1, changed(l, at, bad), ask(99, 1, 1), nil, api.Arg)
		}
		if at > 0 {
			holdJoin(t, c, 1, changed(l, at, ask(l[at-1].Id.Time, 1, 1)), ask(99, 1, 1), nil, api.Arg)
			holdJoin(t, c, 1, changed(l, at-1, ask(r.Id.Time+1, 1, 1)), ask(99, 1, 1), nil, api.Arg)
		}
	}
	holdJoin(t, c, 0, l, ask(99, 0, 1), nil, api.Arg)
	holdJoin(t, c, 2, l, ask(99, 1, 1), nil, api.Arg)
	holdJoin(t, c, 1, waiting(5000, 1), ask(mostTime, 1, 1), nil, api.Arg)
	for _, who := range badWhos {
		holdJoin(t, c, who, nil, ask(99, who, 1), nil, api.Arg)
		holdJoin(t, c, who, nil, ask(99, who, 0), nil, api.Arg)
		holdJoin(t, c, who, waiting(2, who), ask(99, who, 1), nil, api.Arg)
	}
}

// TestJoinFirstCode: P11.1, of each choice of things that are wrong at once the one named first is told.
func TestJoinFirstCode(t *testing.T) {
	c := cluster(3, 2)
	rotten := map[bool][][]api.Request{ // by whether there are Q: lines that may not be
		false: {{ask(10, 2, 1)}, {ask(10, 1, 0)}, {ask(0, 1, 1)}},
		true:  {{ask(20, 1, 1), ask(10, 1, 1)}, {ask(10, 1, 1), ask(20, 0, 1)}, {ask(10, 1, 1), ask(10, 1, 1)}},
	}
	good := map[bool][][]api.Request{false: {waiting(1, 1)}, true: {waiting(2, 1)}}
	stamps := map[bool][]api.Stamp{
		false: {{Time: 99, Who: 1}},
		true:  {{}, {Time: 0, Who: 1}, {Time: mostTime + 1, Who: 1}, {Time: 99, Who: 0}, {Time: 99, Who: 3}, {Time: 10, Who: 1}, {Time: 9, Who: 1}},
	}
	amounts := map[bool][]int64{false: {1, mostAmount}, true: badAmounts}
	for ways := range 16 {
		badLine, badAmount, full, badStamp := ways&1 > 0, ways&2 > 0, ways&4 > 0, ways&8 > 0
		want, lists := api.OK, good[full]
		switch {
		case badLine:
			want, lists = api.Arg, rotten[full]
		case badAmount:
			want = api.Invalid
		case full:
			want = api.Busy
		case badStamp:
			want = api.Arg
		}
		for _, l := range lists {
			for _, id := range stamps[badStamp] {
				for _, amount := range amounts[badAmount] {
					r := api.Request{Id: id, Amount: amount}
					var out []api.Request
					if want == api.OK {
						out = slices.Concat(l, []api.Request{r})
					}
					holdJoin(t, c, 1, l, r, out, want)
				}
			}
		}
	}
}

// TestLeave: P11.2, of one, of more, and of lists that are no lines.
func TestLeave(t *testing.T) {
	for n := 1; n <= 9; n++ {
		l := waiting(n, 2)
		holdLeave(t, l, ask(10, 2, 1), slices.Clone(l[1:]), true)
	}
	for _, l := range [][]api.Request{
		{{}},
		{{}, {}},
		{ask(7, 1, 0)},
		{ask(20, 1, 3), ask(10, 1, 4)},
		{ask(10, 1, 3), ask(10, 1, 3), ask(10, 1, 3)},
		{ask(-1, -1, -1), ask(math.MaxInt64, math.MaxInt, math.MaxInt64), ask(1, 0, 1)},
		waiting(5000, 1),
	} {
		holdLeave(t, l, l[0], slices.Clone(l[1:]), true)
	}
}

// TestLeaveNone: P11.2, no request, none and false of none, whatever lies in the spare room.
func TestLeaveNone(t *testing.T) {
	for _, l := range [][]api.Request{nil, {}, waiting(4, 1)[:0], waiting(4, 1)[4:]} {
		holdLeave(t, l, api.Request{}, nil, false)
	}
	holdLeave(t, waiting(4, 1)[:1], ask(10, 1, 1), nil, true)
}

// drawnLine is a line of who, at times with one more or less than may be, or with one thing spoilt.
func drawnLine(draw *rand.Rand, c api.Config, who int) []api.Request {
	l := make([]api.Request, draw.Intn(c.Q+2))
	time := int64(0)
	for i := range l {
		time += 1 + draw.Int63n(3)
		l[i] = ask(time, who, 1+draw.Int63n(5))
	}
	if len(l) > 0 && draw.Intn(3) == 0 {
		l[draw.Intn(len(l))] = drawnRequest(draw, who)
	}
	return l
}

// drawnRequest is one about the times of drawn lines, of which something may be wrong.
func drawnRequest(draw *rand.Rand, who int) api.Request {
	r := ask(draw.Int63n(25), who, 1+draw.Int63n(5))
	switch draw.Intn(8) {
	case 0:
		r.Id.Who += draw.Intn(3) - 1
	case 1:
		r.Id.Time = badTimes[draw.Intn(len(badTimes))]
	case 2, 3:
		r.Amount = badAmounts[draw.Intn(len(badAmounts))]
	}
	return r
}

// TestByWords: P11.1 and P11.2, drawn lines and requests, right and spoilt: each call comes to what the words say.
func TestByWords(t *testing.T) {
	draw := rand.New(rand.NewSource(1))
	told := map[api.Code]int{}
	for range 40000 {
		c := cluster(1+draw.Intn(16), 1+draw.Intn(8))
		of := draw.Intn(c.N)
		l, r := drawnLine(draw, c, of), drawnRequest(draw, of)
		who := of
		if draw.Intn(10) == 0 {
			who = draw.Intn(c.N+2) - 1
		}
		holdMay(t, c, who, l, lineMay(c, who, l))
		want, code := joined(c, who, l, r)
		holdJoin(t, c, who, l, r, want, code)
		told[code]++
		if len(l) > 0 {
			holdLeave(t, l, l[0], slices.Clone(l[1:]), true)
		}
	}
	for _, code := range []api.Code{api.OK, api.Arg, api.Invalid, api.Busy} {
		if told[code] < 1000 {
			t.Errorf("P11.1: code %d is told %d times only", code, told[code])
		}
	}
}

// TestFirstInFirstOut: P11.3, whoever joined, and none else, leaves in the order in which they joined; what is left may ever be a line.
func TestFirstInFirstOut(t *testing.T) {
	draw := rand.New(rand.NewSource(2))
	for q := 1; q <= 8; q++ {
		c, who := cluster(5, q), q%5
		var l, in []api.Request
		out := 0
		for step := range 3000 {
			if draw.Intn(2) == 0 {
				r := ask(int64(step+1), who, 1+draw.Int63n(9))
				more, code := line.Join(c, who, l, r)
				if (code == api.OK) != (len(in)-out < q) {
					t.Fatalf("P11.3: Q %d, %d wait: %d", q, len(in)-out, code)
				}
				if code == api.OK {
					l, in = more, append(in, r)
				}
			} else {
				first, rest, ok := line.Leave(l)
				if ok != (out < len(in)) || ok && first != in[out] {
					t.Fatalf("P11.3: Q %d: %v, %t leaves, the %dth of %v", q, first, ok, out, in)
				}
				if ok {
					l, out = rest, out+1
				}
			}
			if !slices.Equal(l, in[out:]) || !line.May(c, who, l) {
				t.Fatalf("P11.3: Q %d: %v wait, want %v", q, l, in[out:])
			}
		}
	}
}

// roomy is the same line, with room behind it, none of it zero.
func roomy(l []api.Request, room int) []api.Request {
	all := slices.Clone(l)
	for i := range room {
		all = append(all, ask(int64(-7-i), -7, -7))
	}
	return all[:len(l)]
}

// scrawl writes over a line and its spare room.
func scrawl(l []api.Request) {
	all := l[:cap(l)]
	for i := range all {
		all[i] = ask(-99, -99, -99)
	}
}

// TestLineStays: rules 3 and 4, the line that came in stays as it was, its spare room too, also behind what is done to the answers.
func TestLineStays(t *testing.T) {
	c, r := cluster(3, 4), ask(99, 1, 9)
	for n := range 5 {
		for _, room := range []int{0, 1, 9} {
			l := roomy(waiting(n, 1), room)
			was := slices.Clone(l[:cap(l)])
			for range 3 {
				holdMay(t, c, 1, l, true)
				want, code := joined(c, 1, l, r)
				holdJoin(t, c, 1, l, r, want, code)
				holdJoin(t, c, 1, l, ask(99, 1, 0), nil, api.Invalid)
				if n > 0 {
					holdLeave(t, l, was[0], was[1:n], true)
				}
				more, _ := line.Join(c, 1, l, r)
				scrawl(more)
				_, rest, _ := line.Leave(l)
				scrawl(rest)
				if !slices.Equal(l[:cap(l)], was) {
					t.Fatalf("rule 3: %d wait, room for %d: what was handed in is %v now", n, room, l[:cap(l)])
				}
			}
		}
	}
}

// TestAnswerStays: rule 3, what comes back isn't changed by what is done to the line later, nor by other answers.
func TestAnswerStays(t *testing.T) {
	c, a, b := cluster(3, 4), ask(98, 1, 8), ask(99, 1, 9)
	for n := range 4 {
		for _, room := range []int{0, 1, 9} {
			l := roomy(waiting(n, 1), room)
			one, _ := line.Join(c, 1, l, a)
			two, _ := line.Join(c, 1, l, b)
			first, rest, _ := line.Leave(l)
			_, again, _ := line.Leave(l)
			scrawl(l)
			scrawl(again)
			if was := waiting(n, 1); !slices.Equal(one, append(was, a)) || !slices.Equal(two, append(was, b)) {
				t.Errorf("rule 3: %d waited, room for %d: joined they are %v and %v now", n, room, one, two)
			}
			if was := waiting(n, 1); n > 0 && (first != was[0] || !slices.Equal(rest, was[1:])) {
				t.Errorf("rule 3: %d waited, room for %d: behind %v there are %v now", n, room, first, rest)
			}
		}
	}
}
