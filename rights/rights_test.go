package rights_test

import (
	"math"
	"math/big"
	"math/rand"
	"slices"
	"testing"

	"coffers/api"
	"coffers/rights"
	"coffers/row"
)

// edges are the numbers about which something changes: about 0, about 2^40 and 2^50, and the ends of 64 bits.
var edges = []int64{
	math.MinInt64, math.MinInt64 + 1, -1 << 50, -1 << 40, -2, -1, 0, 1, 2, 1 << 31, 1 << 32,
	1<<40 - 1, 1 << 40, 1<<40 + 1, 1<<50 - 1, 1 << 50, 1<<50 + 1, 1 << 62, math.MaxInt64 - 1, math.MaxInt64,
}

// cluster is a config of which only N, K and C play a part.
func cluster(n int, k, c int64) api.Config { return api.Config{N: n, Q: 1, R: 1, P: 1, K: k, C: c} }

// of is a row, written short.
func of(inc, use int64, out ...int64) api.Row { return api.Row{Inc: inc, Use: use, Out: out} }

// own are the same books in memory of their own.
func own(l []api.Row) []api.Row {
	var out []api.Row
	for _, r := range l {
		out = append(out, of(r.Inc, r.Use, slices.Clone(r.Out)...))
	}
	return out
}

// same: are two books alike, row by row?
func same(a, b []api.Row) bool { return slices.EqualFunc(a, b, row.Same) }

// number is one that has no bounds.
func number(v int64) *big.Int { return big.NewInt(v) }

// fits: is it from low to high, by numbers that have no bounds?
func fits(v *big.Int, low, high int64) bool {
	return v.Cmp(number(low)) >= 0 && v.Cmp(number(high)) <= 0
}

// may: the config's words.
func may(c api.Config) bool {
	all := new(big.Int).Mul(number(int64(c.N)), number(c.C))
	all.Add(all, number(c.K))
	return fits(number(int64(c.N)), 1, 16) && fits(number(int64(c.Q)), 1, 8) && fits(number(int64(c.R)), 0, 8) &&
		fits(number(int64(c.P)), 1, 16) && c.K >= 0 && c.C >= 0 && fits(all, 0, 1<<40)
}

// share: K, dealt out one by one from the first replica on.
func share(c api.Config, who int) int64 {
	whole, left := number(c.K), new(big.Int)
	whole.DivMod(whole, number(int64(c.N)), left)
	if left.Cmp(number(int64(who))) > 0 {
		whole.Add(whole, number(1))
	}
	return whole.Int64()
}

// rightsOf: the words of rights.
func rightsOf(c api.Config, l []api.Row, who int) *big.Int {
	sum := number(share(c, who))
	sum.Add(sum, number(l[who].Inc))
	for i := range l {
		sum.Add(sum, number(l[i].Out[who]))
		sum.Sub(sum, number(l[who].Out[i]))
	}
	return sum.Sub(sum, number(l[who].Use))
}

// right: the words of books that are right.
func right(c api.Config, l []api.Row) bool {
	if !may(c) || len(l) != c.N {
		return false
	}
	for i, r := range l {
		if !row.May(r, c.N, i) || r.Inc > c.C {
			return false
		}
	}
	for i := range l {
		if rightsOf(c, l, i).Sign() < 0 {
			return false
		}
	}
	return true
}

// value: the words of the value.
func value(c api.Config, l []api.Row) *big.Int {
	sum := number(c.K)
	for _, r := range l {
		sum.Add(sum, number(r.Inc))
		sum.Sub(sum, number(r.Use))
	}
	return sum
}

// there: is there such a replica?
func there(c api.Config, who int) bool { return who >= 0 && who < c.N }

// plus is more than a number by an amount, without bounds.
func plus(v, amount int64) *big.Int { return new(big.Int).Add(number(v), number(amount)) }

// put: the words of Put.
func put(c api.Config, l []api.Row, who int, amount int64) ([]api.Row, api.Code) {
	switch {
	case !right(c, l) || !there(c, who):
		return nil, api.Arg
	case !fits(number(amount), 1, 1<<40):
		return nil, api.Invalid
	case plus(l[who].Inc, amount).Cmp(number(c.C)) > 0:
		return nil, api.Full
	}
	out := own(l)
	out[who].Inc += amount
	return out, api.OK
}

// take: the words of Take.
func take(c api.Config, l []api.Row, who int, amount int64) ([]api.Row, api.Code) {
	switch {
	case !right(c, l) || !there(c, who):
		return nil, api.Arg
	case !fits(number(amount), 1, 1<<40):
		return nil, api.Invalid
	case number(amount).Cmp(rightsOf(c, l, who)) > 0:
		return nil, api.Lacking
	case plus(l[who].Use, amount).Cmp(number(1<<40)) > 0:
		return nil, api.Range
	}
	out := own(l)
	out[who].Use += amount
	return out, api.OK
}

// move: the words of Move.
func move(c api.Config, l []api.Row, who, to int, amount int64) ([]api.Row, api.Code) {
	switch {
	case !right(c, l) || !there(c, who) || !there(c, to) || who == to:
		return nil, api.Arg
	case !fits(number(amount), 1, 1<<40):
		return nil, api.Invalid
	case number(amount).Cmp(rightsOf(c, l, who)) > 0:
		return nil, api.Lacking
	case plus(l[who].Out[to], amount).Cmp(number(1<<50)) > 0:
		return nil, api.Range
	}
	out := own(l)
	out[who].Out[to] += amount
	return out, api.OK
}

// join: the words of Join.
func join(c api.Config, a, b []api.Row) ([]api.Row, api.Code) {
	if !right(c, a) || !right(c, b) {
		return nil, api.Arg
	}
	out := own(a)
	for i, r := range b {
		out[i].Inc = max(out[i].Inc, r.Inc)
		out[i].Use = max(out[i].Use, r.Use)
		for to, moved := range r.Out {
			out[i].Out[to] = max(out[i].Out[to], moved)
		}
	}
	if !right(c, out) {
		return nil, api.Lacking
	}
	return out, api.OK
}

// drawnConfig is one that may be, of few or of many there.
func drawnConfig(draw *rand.Rand) api.Config {
	c := api.Config{N: 1 + draw.Intn(4), Q: 1 + draw.Intn(8), R: draw.Intn(9), P: 1 + draw.Intn(16), K: draw.Int63n(30), C: draw.Int63n(9)}
	if draw.Intn(4) == 0 {
		c.N = 1 + draw.Intn(16)
		c.C = draw.Int63n(1<<40/int64(c.N) + 1)
		c.K = draw.Int63n(1<<40 - int64(c.N)*c.C + 1)
	}
	return c
}

// drawnStep is books behind a step that may be, as the words have it; the same ones, if it may not.
func drawnStep(draw *rand.Rand, c api.Config, l []api.Row) []api.Row {
	who, to := draw.Intn(c.N), draw.Intn(c.N)
	amount := 1 + draw.Int63n(6)
	if most := rightsOf(c, l, who).Int64(); most > 0 && draw.Intn(2) == 0 {
		amount = 1 + draw.Int63n(most)
	}
	var out []api.Row
	code := api.Arg
	switch draw.Intn(4) {
	case 0:
		out, code = put(c, l, who, amount)
	case 1:
		out, code = take(c, l, who, amount)
	default:
		out, code = move(c, l, who, to, amount)
	}
	if code != api.OK {
		return l
	}
	return out
}

// drawnBooks are right books behind some steps.
func drawnBooks(draw *rand.Rand, c api.Config) []api.Row {
	l := blank(c.N)
	// As much forth as back, so that what was moved is now and then near to its limit.
	if c.N > 1 && draw.Intn(4) == 0 {
		most := 1<<50 - draw.Int63n(4)
		l[0].Out[1], l[1].Out[0] = most, most
	}
	for range draw.Intn(20) {
		l = drawnStep(draw, c, l)
	}
	return l
}

// blank are books of n replicas without anything.
func blank(n int) []api.Row {
	var l []api.Row
	for range n {
		l = append(l, of(0, 0, make([]int64, n)...))
	}
	return l
}

// spoilt are books of which one number is another one, or that have a row more or fewer.
func spoilt(draw *rand.Rand, l []api.Row) []api.Row {
	l = own(l)
	i, v := draw.Intn(len(l)), edges[draw.Intn(len(edges))]
	switch draw.Intn(7) {
	case 0:
		l[i].Inc = v
	case 1:
		l[i].Use = v
	case 2, 3:
		l[i].Out[draw.Intn(len(l))] = v
	case 4:
		l[i].Out = l[i].Out[:len(l)-1]
	case 5:
		return l[:len(l)-1]
	default:
		return append(l, l[i])
	}
	return l
}

// TestMay: P5.1, the edges of each number of a config, those about each of them, and the ends of 64 bits.
func TestMay(t *testing.T) {
	for _, x := range []struct {
		c    api.Config
		want bool
	}{
		{api.Config{N: 1, Q: 1, R: 0, P: 1}, true},
		{api.Config{N: 16, Q: 8, R: 8, P: 16}, true},
		{api.Config{N: 3, Q: 2, R: 1, P: 4, K: 7, C: 5}, true},
		{cluster(1, 1<<40, 0), true},
		{cluster(16, 1<<40, 0), true},
		{cluster(1, 0, 1<<40), true},
		{cluster(2, 0, 1<<39), true},
		{cluster(16, 0, 1<<36), true},
		{cluster(2, 1<<39, 1<<38), true},
		{cluster(16, 1<<40-16, 1), true},
		{cluster(3, 1, (1<<40-1)/3), true}, // 2^40 - 1 is three times something

		{api.Config{}, false},
		{api.Config{N: 0, Q: 1, R: 1, P: 1}, false},
		{api.Config{N: 17, Q: 1, R: 1, P: 1}, false},
		{api.Config{N: -1, Q: 1, R: 1, P: 1}, false},
		{api.Config{N: 1, Q: 0, R: 1, P: 1}, false},
		{api.Config{N: 1, Q: 9, R: 1, P: 1}, false},
		{api.Config{N: 1, Q: -1, R: 1, P: 1}, false},
		{api.Config{N: 1, Q: 1, R: -1, P: 1}, false},
		{api.Config{N: 1, Q: 1, R: 9, P: 1}, false},
		{api.Config{N: 1, Q: 1, R: 1, P: 0}, false},
		{api.Config{N: 1, Q: 1, R: 1, P: 17}, false},
		{api.Config{N: 1, Q: 1, R: 1, P: -1}, false},
		{cluster(1, -1, 0), false},
		{cluster(1, 0, -1), false},
		{cluster(2, 5, -1), false},
		{cluster(1, -1, 5), false},
		{cluster(1, 1<<40+1, 0), false},
		{cluster(1, 0, 1<<40+1), false},
		{cluster(1, 1, 1<<40), false},
		{cluster(1, 1<<40, 1), false},
		{cluster(16, 1<<40-15, 1), false},
		{cluster(2, 1, 1<<39), false},
		{cluster(16, 0, 1<<36+1), false},
		{cluster(16, 0, 1<<60), false}, // N times C is 2^64: nothing, in 64 bits
		{cluster(16, 5, 1<<60), false},
		{cluster(8, 0, 1<<61), false},
		{cluster(2, 2, math.MaxInt64), false},
		{cluster(16, 16, math.MaxInt64), false},
		{cluster(3, 0, math.MaxInt64/3*2+2), false}, // three times it passes 64 bits, and comes out above 0
		{cluster(1, math.MaxInt64, 1), false},
		{cluster(1, math.MaxInt64, math.MaxInt64), false},
		{cluster(2, math.MaxInt64, math.MaxInt64), false},
		{cluster(1, math.MinInt64, 0), false},
		{cluster(1, 0, math.MinInt64), false},
		{cluster(2, 5, math.MinInt64), false},
		{cluster(16, math.MinInt64, math.MaxInt64), false},
	} {
		if got := rights.May(x.c); got != x.want {
			t.Errorf("P5.1: May(%+v): %t, want %t", x.c, got, x.want)
		}
	}
}

// TestMayByWords: P5.1, each number of a config at each edge, and K and C at two edges at once.
func TestMayByWords(t *testing.T) {
	try := func(c api.Config) {
		t.Helper()
		if got, want := rights.May(c), may(c); got != want {
			t.Errorf("P5.1: May(%+v): %t, want %t", c, got, want)
		}
	}
	small := append([]int64{3, 7, 8, 9, 15, 16, 17}, edges...)
	for _, v := range small {
		for i := range 4 {
			c := cluster(2, 3, 4)
			*[]*int{&c.N, &c.Q, &c.R, &c.P}[i] = int(v)
			try(c)
		}
		for _, w := range small {
			for _, n := range []int{0, 1, 2, 3, 7, 8, 15, 16, 17} {
				try(cluster(n, v, w))
			}
		}
	}
}

// TestShare: P5.1, K that N divides, that it doesn't, and that is less than N; who of 0, of N - 1, and such as are none.
func TestShare(t *testing.T) {
	for _, x := range []struct {
		c    api.Config
		want []int64
	}{
		{cluster(3, 7, 5), []int64{3, 2, 2}},
		{cluster(3, 6, 0), []int64{2, 2, 2}},
		{cluster(3, 8, 0), []int64{3, 3, 2}},
		{cluster(4, 3, 9), []int64{1, 1, 1, 0}},
		{cluster(4, 1, 9), []int64{1, 0, 0, 0}},
		{cluster(4, 0, 9), []int64{0, 0, 0, 0}},
		{cluster(1, 5, 0), []int64{5}},
		{cluster(1, 1<<40, 0), []int64{1 << 40}},
		{cluster(3, 1<<40, 0), []int64{366503875926, 366503875925, 366503875925}},
		{cluster(16, 1<<40, 0), slices.Repeat([]int64{1 << 36}, 16)},
		{cluster(16, 15, 0), append(slices.Repeat([]int64{1}, 15), 0)},
	} {
		for who, want := range x.want {
			if got := rights.Share(x.c, who); got != want {
				t.Errorf("P5.1: Share(%+v, %d): %d, want %d", x.c, who, got, want)
			}
		}
		for _, who := range []int{-1, x.c.N, x.c.N + 1, -x.c.N, math.MinInt64, math.MaxInt64} {
			if got := rights.Share(x.c, who); got != 0 {
				t.Errorf("P5.1: Share(%+v, %d), of nobody: %d", x.c, who, got)
			}
		}
	}
	for _, c := range wrongConfigs() {
		for _, who := range []int{-1, 0, 1} {
			if got := rights.Share(c, who); got != 0 {
				t.Errorf("P5.1: Share(%+v, %d), of a config that may not be: %d", c, who, got)
			}
		}
	}
}

// wrongConfigs are some that may not be, each by one number.
func wrongConfigs() []api.Config {
	list := []api.Config{{}, cluster(0, 5, 5), cluster(-1, 5, 5), cluster(17, 5, 5), cluster(2, -5, 5), cluster(2, 5, -5), cluster(2, 1<<40, 1), cluster(2, 4, 1<<63-1), cluster(math.MaxInt64, 4, 4), cluster(math.MinInt64, 4, 4)}
	for i := range 3 {
		for _, v := range []int{-1, 17, math.MinInt64, math.MaxInt64} {
			c := cluster(2, 5, 5)
			*[]*int{&c.Q, &c.R, &c.P}[i] = v
			list = append(list, c)
		}
	}
	return list
}

// TestNew: P5.1, books without anything, of each N; none of a config that may not be.
func TestNew(t *testing.T) {
	for n := 1; n <= 16; n++ {
		c := cluster(n, 7, 5)
		l := rights.New(c)
		if !same(l, blank(n)) || !rights.Right(c, l) || rights.Value(c, l) != 7 {
			t.Errorf("P5.1: New(%+v): %v", c, l)
		}
	}
	for _, c := range wrongConfigs() {
		if l := rights.New(c); len(l) != 0 {
			t.Errorf("P5.1: New(%+v), of a config that may not be: %v", c, l)
		}
	}
}

// TestRight: P5.1, each row, each Inc, and each one's rights, at their edges; too many rows, and too few.
func TestRight(t *testing.T) {
	c := cluster(2, 7, 5) // shares 4 and 3
	for _, x := range []struct {
		c    api.Config
		l    []api.Row
		want bool
	}{
		{c, blank(2), true},
		{c, []api.Row{of(5, 0, 0, 0), of(5, 0, 0, 0)}, true},
		{c, []api.Row{of(0, 4, 0, 0), of(0, 3, 0, 0)}, true}, // rights of just 0
		{c, []api.Row{of(5, 9, 0, 0), of(5, 8, 0, 0)}, true},
		{c, []api.Row{of(0, 0, 0, 4), of(0, 7, 0, 0)}, true},
		{c, []api.Row{of(0, 7, 0, 0), of(0, 0, 3, 0)}, true},
		{c, []api.Row{of(0, 0, 0, 1<<50), of(0, 0, 1<<50, 0)}, true},
		{c, []api.Row{of(0, 0, 0, 1<<50), of(0, 0, 1<<50-4, 0)}, true},
		{cluster(1, 1<<40, 0), []api.Row{of(0, 1<<40, 0)}, true},
		{cluster(1, 0, 1<<40), []api.Row{of(1<<40, 1<<40, 0)}, true},
		{cluster(16, 0, 0), blank(16), true},

		{c, []api.Row{of(6, 0, 0, 0), of(0, 0, 0, 0)}, false}, // an Inc above C
		{c, []api.Row{of(0, 0, 0, 0), of(6, 0, 0, 0)}, false},
		{c, []api.Row{of(0, 5, 0, 0), of(0, 0, 0, 0)}, false}, // rights of -1
		{c, []api.Row{of(0, 0, 0, 0), of(0, 4, 0, 0)}, false},
		{c, []api.Row{of(0, 0, 0, 5), of(0, 0, 0, 0)}, false},
		{c, []api.Row{of(0, 0, 0, 0), of(0, 0, 4, 0)}, false},
		{c, []api.Row{of(0, 1, 0, 4), of(0, 0, 0, 0)}, false},
		{c, []api.Row{of(0, 0, 0, 1<<50), of(0, 0, 1<<50-5, 0)}, false},
		{c, []api.Row{of(-1, 0, 0, 0), of(0, 0, 0, 0)}, false}, // rows that may not be
		{c, []api.Row{of(0, -1, 0, 0), of(0, 0, 0, 0)}, false},
		{c, []api.Row{of(0, 0, 0, -1), of(0, 0, 0, 0)}, false},
		{c, []api.Row{of(0, 0, 1, 0), of(0, 0, 0, 0)}, false},
		{c, []api.Row{of(0, 0, 0, 0), of(0, 0, 0, 1)}, false},
		{c, []api.Row{of(0, 0, 0, 1<<50+1), of(0, 0, 1<<50, 0)}, false},
		{c, []api.Row{of(0, 0, 0), of(0, 0, 0, 0)}, false},
		{c, []api.Row{of(0, 0, 0, 0), of(0, 0, 0)}, false},
		{c, []api.Row{of(0, 0, 0, 0), of(0, 0, 0, 0, 0)}, false},
		{c, []api.Row{{}, {}}, false},
		{c, nil, false},
		{c, []api.Row{}, false},
		{c, blank(2)[:1], false},
		{c, append(blank(2), of(0, 0, 0, 0)), false},
		{c, blank(1), false},
		{c, blank(3), false},
		{cluster(16, 0, 0), blank(15), false},
		{cluster(16, 0, 0), blank(17), false},
		{cluster(17, 0, 0), blank(17), false},
		{cluster(0, 0, 0), nil, false},
		{cluster(-1, 0, 0), nil, false},
		{api.Config{}, nil, false},
		{cluster(1, 1<<40+1, 0), blank(1), false},
		{cluster(2, 1, math.MaxInt64), blank(2), false},
	} {
		if got := rights.Right(x.c, x.l); got != x.want {
			t.Errorf("P5.1: Right(%+v, %v): %t, want %t", x.c, x.l, got, x.want)
		}
	}
}

// TestOfAndValue: P5.1, what was put in, taken out, and moved to and fro; 0 of nobody, and of books that aren't right.
func TestOfAndValue(t *testing.T) {
	c := cluster(3, 7, 5) // shares 3, 2, 2
	l := []api.Row{of(1, 9, 0, 2, 1), of(5, 0, 7, 0, 0), of(4, 1, 3, 2, 0)}
	for who, want := range []int64{2, 4, 1} {
		if got := rights.Of(c, l, who); got != want {
			t.Errorf("P5.1: Of(%v, %d): %d, want %d", l, who, got, want)
		}
	}
	if got := rights.Value(c, l); got != 7 {
		t.Errorf("P5.1: Value(%v): %d, want 7", l, got)
	}
	for _, who := range []int{-1, 3, 4, math.MinInt64, math.MaxInt64} {
		if got := rights.Of(c, l, who); got != 0 {
			t.Errorf("P5.1: Of(%v, %d), of nobody: %d", l, who, got)
		}
	}
	for _, x := range []struct {
		c api.Config
		l []api.Row
	}{
		{c, nil}, {c, l[:2]}, {c, append(own(l), of(0, 0, 0, 0, 0))}, {cluster(3, 7, 4), l}, {cluster(3, 1, 5), l},
		{c, []api.Row{of(1, 9, 0, 2, 1), of(5, 0, 7, 0, 0), of(4, 4, 3, 2, 0)}}, {cluster(17, 7, 5), blank(17)}, {cluster(3, -1, 5), blank(3)}, {api.Config{}, l},
	} {
		for who := range 3 {
			if got := rights.Of(x.c, x.l, who); got != 0 {
				t.Errorf("P5.1: Of(%+v, %v, %d), which aren't right: %d", x.c, x.l, who, got)
			}
		}
		if got := rights.Value(x.c, x.l); got != 0 {
			t.Errorf("P5.1: Value(%+v, %v), which aren't right: %d", x.c, x.l, got)
		}
	}
	whole := cluster(16, 0, 1<<36)
	l = blank(16)
	for i := range l {
		l[i].Inc = 1 << 36
	}
	if got := rights.Value(whole, l); got != 1<<40 {
		t.Errorf("P5.1: Value, of all that there may be: %d", got)
	}
}

// answer is what a call that makes books answers.
type answer func() ([]api.Row, api.Code)

// wants holds what is answered against what the words ask.
func wants(t *testing.T, promise, what string, got, want answer) {
	t.Helper()
	l, code := got()
	if wl, wcode := want(); !same(l, wl) || code != wcode {
		t.Errorf("%s: %s: %v, %d, want %v, %d", promise, what, l, code, wl, wcode)
	}
}

// TestJoin: P5.2, books ahead of each other in turn, the same ones, and such as don't go together.
func TestJoin(t *testing.T) {
	c := cluster(2, 7, 5) // shares 4 and 3
	spent := []api.Row{of(0, 4, 0, 0), of(0, 0, 0, 0)}
	moved := []api.Row{of(0, 0, 0, 1), of(0, 0, 0, 0)}
	for _, x := range []struct {
		a, b, want []api.Row
		code       api.Code
	}{
		{blank(2), blank(2), blank(2), api.OK},
		{spent, spent, spent, api.OK},
		{spent, blank(2), spent, api.OK},
		{[]api.Row{of(5, 1, 0, 2), of(0, 3, 0, 0)}, []api.Row{of(2, 4, 0, 1), of(1, 0, 2, 0)}, []api.Row{of(5, 4, 0, 2), of(1, 3, 2, 0)}, api.OK},
		{[]api.Row{of(0, 0, 0, 4), of(0, 0, 0, 0)}, []api.Row{of(0, 0, 0, 0), of(0, 0, 3, 0)}, []api.Row{of(0, 0, 0, 4), of(0, 0, 3, 0)}, api.OK},
		{[]api.Row{of(1, 4, 0, 0), of(0, 0, 0, 0)}, moved, []api.Row{of(1, 4, 0, 1), of(0, 0, 0, 0)}, api.OK}, // rights of just 0

		{spent, moved, nil, api.Lacking},
		{moved, spent, nil, api.Lacking},
		{[]api.Row{of(0, 0, 0, 0), of(0, 3, 0, 0)}, []api.Row{of(0, 0, 0, 0), of(0, 0, 3, 0)}, nil, api.Lacking},

		{spent, nil, nil, api.Arg},
		{nil, spent, nil, api.Arg},
		{nil, nil, nil, api.Arg},
		{spent, blank(2)[:1], nil, api.Arg},
		{blank(3), spent, nil, api.Arg},
		{blank(3), blank(3), nil, api.Arg},
		{spent, []api.Row{of(0, 5, 0, 0), of(0, 0, 0, 0)}, nil, api.Arg},
		{[]api.Row{of(6, 0, 0, 0), of(0, 0, 0, 0)}, moved, nil, api.Arg},
		{blank(2), []api.Row{of(0, 0, 0, 0), of(0, 0, 0, 1)}, nil, api.Arg},
		{[]api.Row{of(0, 5, 0, 0), of(0, 0, 0, 0)}, []api.Row{of(1, 0, 0, 0), of(0, 0, 0, 0)}, nil, api.Arg}, // joined they would be right
	} {
		wants(t, "P5.2", "Join", func() ([]api.Row, api.Code) { return rights.Join(c, x.a, x.b) }, func() ([]api.Row, api.Code) { return x.want, x.code })
	}
	for _, c := range wrongConfigs() {
		if l, code := rights.Join(c, blank(2), blank(2)); len(l) != 0 || code != api.Arg {
			t.Errorf("P5.2: Join(%+v), of a config that may not be: %v, %d", c, l, code)
		}
	}
}

// TestPut: P5.3, an Inc of just C, and one more; what is wrong first.
func TestPut(t *testing.T) {
	c := cluster(2, 7, 5)
	l := []api.Row{of(2, 6, 0, 0), of(0, 0, 0, 1)}
	l[1].Out = []int64{1, 0}
	wrong := []api.Row{of(6, 0, 0, 0), of(0, 0, 0, 0)}
	for _, x := range []struct {
		c      api.Config
		l      []api.Row
		who    int
		amount int64
		code   api.Code
	}{
		{c, l, 0, 1, api.OK},
		{c, l, 0, 3, api.OK},
		{c, l, 1, 5, api.OK},
		{cluster(1, 0, 1<<40), blank(1), 0, 1 << 40, api.OK},
		{cluster(1, 0, 1<<40), []api.Row{of(1<<40-1, 0, 0)}, 0, 1, api.OK},
		{cluster(16, 0, 1<<36), blank(16), 15, 1 << 36, api.OK},

		{c, l, 0, 4, api.Full},
		{c, l, 1, 6, api.Full},
		{c, l, 1, 1 << 40, api.Full},
		{cluster(2, 7, 0), blank(2), 1, 1, api.Full},
		{cluster(1, 0, 1<<40), []api.Row{of(1, 0, 0)}, 0, 1 << 40, api.Full},
		{c, l, 0, 0, api.Invalid},
		{c, l, 0, -1, api.Invalid},
		{c, l, 0, 1<<40 + 1, api.Invalid}, // Full as well
		{c, l, 0, math.MinInt64, api.Invalid},
		{c, l, 0, math.MaxInt64, api.Invalid},
		{c, l, -1, 1, api.Arg},
		{c, l, 2, 1, api.Arg},
		{c, l, 2, 0, api.Arg}, // Invalid as well
		{c, l, math.MinInt64, 1, api.Arg},
		{c, l, math.MaxInt64, 9, api.Arg},
		{c, wrong, 0, 0, api.Arg},
		{c, wrong, 1, 1, api.Arg},
		{c, nil, 0, 1, api.Arg},
		{c, l[:1], 0, 1, api.Arg},
		{cluster(0, 7, 5), nil, 0, 1, api.Arg},
		{cluster(2, 1<<40, 5), l, 0, 1, api.Arg},
	} {
		var want []api.Row
		if x.code == api.OK {
			want = own(x.l)
			want[x.who].Inc += x.amount
		}
		wants(t, "P5.3", "Put", func() ([]api.Row, api.Code) { return rights.Put(x.c, x.l, x.who, x.amount) }, func() ([]api.Row, api.Code) { return want, x.code })
	}
}

// TestTake: P5.3, just its rights, and one more; Use coming to just 2^40; what is wrong first.
func TestTake(t *testing.T) {
	c := cluster(2, 7, 5) // shares 4 and 3
	l := []api.Row{of(2, 1, 0, 1), of(0, 0, 2, 0)}
	whole := cluster(1, 1<<40, 0)
	for _, x := range []struct {
		c      api.Config
		l      []api.Row
		who    int
		amount int64
		code   api.Code
	}{
		{c, l, 0, 1, api.OK},
		{c, l, 0, 6, api.OK},
		{c, l, 1, 2, api.OK},
		{whole, blank(1), 0, 1 << 40, api.OK},
		{whole, []api.Row{of(0, 1<<40-1, 0)}, 0, 1, api.OK},
		{cluster(16, 16, 0), blank(16), 15, 1, api.OK},

		{c, l, 0, 7, api.Lacking},
		{c, l, 1, 3, api.Lacking}, // no more than its own, though there is more in all
		{c, l, 0, 1 << 40, api.Lacking},
		{cluster(2, 0, 5), blank(2), 0, 1, api.Lacking},
		{whole, []api.Row{of(0, 1<<40, 0)}, 0, 1, api.Lacking}, // Range as well
		{whole, []api.Row{of(0, 1, 0)}, 0, 1 << 40, api.Lacking},
		{c, l, 0, 0, api.Invalid},
		{c, l, 0, -1, api.Invalid},
		{c, l, 0, 1<<40 + 1, api.Invalid}, // Lacking as well
		{c, l, 0, math.MinInt64, api.Invalid},
		{c, l, 0, math.MaxInt64, api.Invalid},
		{c, l, -1, 1, api.Arg},
		{c, l, 2, 1, api.Arg},
		{c, l, 2, -1, api.Arg}, // Invalid as well
		{c, l, math.MinInt64, 1, api.Arg},
		{c, l, math.MaxInt64, 9, api.Arg},
		{c, []api.Row{of(0, 5, 0, 0), of(0, 0, 0, 0)}, 1, 1, api.Arg},
		{c, []api.Row{of(0, 5, 0, 0), of(0, 0, 0, 0)}, 1, 0, api.Arg},
		{c, nil, 0, 1, api.Arg},
		{c, blank(3), 0, 1, api.Arg},
		{cluster(17, 70, 5), blank(17), 0, 1, api.Arg},
	} {
		var want []api.Row
		if x.code == api.OK {
			want = own(x.l)
			want[x.who].Use += x.amount
		}
		wants(t, "P5.3", "Take", func() ([]api.Row, api.Code) { return rights.Take(x.c, x.l, x.who, x.amount) }, func() ([]api.Row, api.Code) { return want, x.code })
	}
}

// TestMove: P5.3, just its rights, and one more; what was moved coming to just 2^50, and one more; what is wrong first.
func TestMove(t *testing.T) {
	c := cluster(2, 7, 5) // shares 4 and 3
	l := []api.Row{of(2, 1, 0, 1), of(0, 0, 2, 0)}
	worn := []api.Row{of(0, 0, 0, 1<<50-2), of(0, 0, 1<<50-1, 0)} // rights 5 and 2
	whole := cluster(2, 1<<40, 0)
	for _, x := range []struct {
		c       api.Config
		l       []api.Row
		who, to int
		amount  int64
		code    api.Code
	}{
		{c, l, 0, 1, 1, api.OK},
		{c, l, 0, 1, 6, api.OK},
		{c, l, 1, 0, 2, api.OK},
		{c, worn, 0, 1, 1, api.OK},
		{c, worn, 0, 1, 2, api.OK},
		{c, worn, 1, 0, 1, api.OK},
		{whole, []api.Row{of(0, 0, 0, 0), of(0, 0, 1<<39, 0)}, 0, 1, 1 << 40, api.OK},
		{cluster(16, 16, 0), blank(16), 15, 0, 1, api.OK},
		{cluster(16, 16, 0), blank(16), 0, 15, 1, api.OK},

		{c, worn, 0, 1, 3, api.Range},
		{c, worn, 0, 1, 5, api.Range},
		{c, worn, 1, 0, 2, api.Range},
		{c, worn, 0, 1, 6, api.Lacking}, // Range as well
		{c, worn, 1, 0, 3, api.Lacking},
		{c, l, 0, 1, 7, api.Lacking},
		{c, l, 1, 0, 3, api.Lacking},
		{c, l, 0, 1, 1 << 40, api.Lacking},
		{cluster(2, 0, 5), blank(2), 0, 1, 1, api.Lacking},
		{c, l, 0, 1, 0, api.Invalid},
		{c, l, 0, 1, -1, api.Invalid},
		{c, l, 0, 1, 1<<40 + 1, api.Invalid}, // Lacking as well
		{c, worn, 0, 1, math.MaxInt64, api.Invalid},
		{c, l, 0, 1, math.MinInt64, api.Invalid},
		{c, l, 0, 0, 1, api.Arg},
		{c, l, 1, 1, 1, api.Arg},
		{c, l, 1, 1, 0, api.Arg}, // Invalid as well
		{c, l, -1, 1, 1, api.Arg},
		{c, l, 2, 1, 1, api.Arg},
		{c, l, 0, -1, 1, api.Arg},
		{c, l, 0, 2, 1, api.Arg},
		{c, l, 0, 2, 0, api.Arg},
		{c, l, -1, -1, 1, api.Arg},
		{c, l, 2, 2, 1, api.Arg},
		{c, l, math.MinInt64, 1, 1, api.Arg},
		{c, l, 0, math.MaxInt64, 1, api.Arg},
		{c, []api.Row{of(0, 5, 0, 0), of(0, 0, 0, 0)}, 1, 0, 1, api.Arg},
		{c, nil, 0, 1, 1, api.Arg},
		{c, blank(3), 0, 1, 1, api.Arg},
		{cluster(1, 7, 5), blank(1), 0, 0, 1, api.Arg},
		{cluster(1, 7, 5), blank(1), 0, 1, 1, api.Arg},
		{cluster(17, 70, 5), blank(17), 0, 1, 1, api.Arg},
	} {
		var want []api.Row
		if x.code == api.OK {
			want = own(x.l)
			want[x.who].Out[x.to] += x.amount
		}
		wants(t, "P5.3", "Move", func() ([]api.Row, api.Code) { return rights.Move(x.c, x.l, x.who, x.to, x.amount) }, func() ([]api.Row, api.Code) { return want, x.code })
	}
}

// TestByWords: P5.1, P5.2 and P5.3, of books behind many steps, right and spoilt, each call comes to what the document's words say.
func TestByWords(t *testing.T) {
	draw := rand.New(rand.NewSource(1))
	for range 6000 {
		c := drawnConfig(draw)
		start := drawnBooks(draw, c)
		a, b := start, start
		for range draw.Intn(6) {
			a, b = drawnStep(draw, c, a), drawnStep(draw, c, b)
		}
		if draw.Intn(4) == 0 {
			a = spoilt(draw, a)
		}
		if draw.Intn(8) == 0 {
			b = spoilt(draw, b)
		}
		checkTold(t, c, a)
		wants(t, "P5.2", "Join", func() ([]api.Row, api.Code) { return rights.Join(c, a, b) }, func() ([]api.Row, api.Code) { return join(c, a, b) })
		for range 4 {
			checkDone(t, draw, c, a)
		}
	}
}

// checkTold holds what is told of books against the words.
func checkTold(t *testing.T, c api.Config, l []api.Row) {
	t.Helper()
	ok := right(c, l)
	if got := rights.Right(c, l); got != ok {
		t.Errorf("P5.1: Right(%+v, %v): %t, want %t", c, l, got, ok)
	}
	whole := new(big.Int)
	if ok {
		whole = value(c, l)
	}
	if got := rights.Value(c, l); number(got).Cmp(whole) != 0 {
		t.Errorf("P5.1: Value(%+v, %v): %d, want %d", c, l, got, whole)
	}
	for who := -1; who <= c.N; who++ {
		want := new(big.Int)
		if ok && there(c, who) {
			want = rightsOf(c, l, who)
		}
		if got := rights.Of(c, l, who); number(got).Cmp(want) != 0 {
			t.Errorf("P5.1: Of(%+v, %v, %d): %d, want %d", c, l, who, got, want)
		}
	}
}

// checkDone holds what is done to books against the words, for a replica and an amount that are drawn, also such as may not be.
func checkDone(t *testing.T, draw *rand.Rand, c api.Config, l []api.Row) {
	t.Helper()
	who, to := draw.Intn(c.N+2)-1, draw.Intn(c.N+2)-1
	amount := draw.Int63n(12)
	switch draw.Intn(3) {
	case 0:
		amount = edges[draw.Intn(len(edges))]
	case 1:
		amount = rights.Of(c, l, who) + draw.Int63n(3) - 1
	}
	wants(t, "P5.3", "Put", func() ([]api.Row, api.Code) { return rights.Put(c, l, who, amount) }, func() ([]api.Row, api.Code) { return put(c, l, who, amount) })
	wants(t, "P5.3", "Take", func() ([]api.Row, api.Code) { return rights.Take(c, l, who, amount) }, func() ([]api.Row, api.Code) { return take(c, l, who, amount) })
	wants(t, "P5.3", "Move", func() ([]api.Row, api.Code) { return rights.Move(c, l, who, to, amount) }, func() ([]api.Row, api.Code) { return move(c, l, who, to, amount) })
}

// TestWhatFollows: P5.4, the value is all rights together, and never below 0; Move leaves it, Put and Take change it by the amount; what is answered is right.
func TestWhatFollows(t *testing.T) {
	draw := rand.New(rand.NewSource(2))
	for range 3000 {
		c := drawnConfig(draw)
		l := drawnBooks(draw, c)
		before := checkSum(t, c, l)
		who, to, amount := draw.Intn(c.N), draw.Intn(c.N), 1+draw.Int63n(5)
		if out, code := rights.Put(c, l, who, amount); code == api.OK && checkSum(t, c, out) != before+amount {
			t.Errorf("P5.4: Put(%+v, %v, %d, %d): %v", c, l, who, amount, out)
		}
		if out, code := rights.Take(c, l, who, amount); code == api.OK && checkSum(t, c, out) != before-amount {
			t.Errorf("P5.4: Take(%+v, %v, %d, %d): %v", c, l, who, amount, out)
		}
		if out, code := rights.Move(c, l, who, to, amount); code == api.OK && checkSum(t, c, out) != before {
			t.Errorf("P5.4: Move(%+v, %v, %d, %d, %d): %v", c, l, who, to, amount, out)
		}
		if out, code := rights.Join(c, l, l); code != api.OK || !same(out, l) {
			t.Errorf("P5.2: %v joined with themselves: %v, %d", l, out, code)
		}
	}
}

// checkSum is the value of books, which are right, and whose rights come to it.
func checkSum(t *testing.T, c api.Config, l []api.Row) int64 {
	t.Helper()
	var sum int64
	for who := range l {
		sum += rights.Of(c, l, who)
	}
	if v := rights.Value(c, l); !rights.Right(c, l) || sum != v || v < 0 {
		t.Errorf("P5.4: %+v, %v: right %t, value %d, all rights %d", c, l, rights.Right(c, l), v, sum)
	}
	return sum
}

// handed are right books with spare room behind the rows and behind each row's numbers.
func handed(sent int64) []api.Row {
	l := make([]api.Row, 0, 5)
	l = append(l, of(1, 2, append(make([]int64, 0, 9), 0, sent, 1)...), of(0, 1, append(make([]int64, 0, 9), 2, 0, 0)...), of(3, 0, append(make([]int64, 0, 9), 0, 1, 0)...))
	for i := range l {
		clear(l[i].Out[3:9])
	}
	return l
}

// room is all that books hold, their spare room too.
func room(l []api.Row) []int64 {
	var all []int64
	for _, r := range l[:cap(l)] {
		all = append(all, r.Inc, r.Use)
		all = append(all, r.Out[:cap(r.Out)]...)
	}
	return all
}

// TestHandedIn: rules 3 and 4, what is handed in stays as it is, its spare room too, what is answered has memory of its own, and hangs on the arguments alone.
func TestHandedIn(t *testing.T) {
	c := cluster(3, 9, 5)
	a, b := handed(2), handed(3)
	keptA, keptB := room(a), room(b)
	for range 3 {
		if !rights.Right(c, a) || rights.Of(c, a, 0) != 1 || rights.Value(c, a) != 10 {
			t.Errorf("P5.1: called anew: %t, %d, %d", rights.Right(c, a), rights.Of(c, a, 0), rights.Value(c, a))
		}
		fresh := rights.New(c)
		joined, code := rights.Join(c, a, b)
		if code != api.OK || !same(joined, b) || !same(fresh, blank(3)) {
			t.Errorf("P5.2: called anew: %v, %d", joined, code)
		}
		more, _ := rights.Put(c, a, 1, 2)
		less, _ := rights.Take(c, a, 1, 2)
		other, _ := rights.Move(c, a, 1, 2, 2)
		if len(more) != 3 || more[1].Inc != 2 || len(less) != 3 || less[1].Use != 3 || len(other) != 3 || other[1].Out[2] != 2 {
			t.Errorf("P5.3: called anew: %v, %v, %v", more, less, other)
		}
		for _, l := range [][]api.Row{fresh, joined, more, less, other} {
			scrawl(l)
		}
		if !slices.Equal(room(a), keptA) || !slices.Equal(room(b), keptB) {
			t.Fatalf("rule 3: what was handed in is %v and %v now", a, b)
		}
	}
}

// scrawl writes over books and their spare room.
func scrawl(l []api.Row) {
	for i := range l[:cap(l)] {
		r := &l[:cap(l)][i]
		for at := range r.Out[:cap(r.Out)] {
			r.Out[:cap(r.Out)][at] = -7
		}
		*r = of(-7, -7, -7)
	}
}

// TestRowsApart: rule 3, no two rows of an answer share memory.
func TestRowsApart(t *testing.T) {
	c := cluster(3, 9, 5)
	a := handed(2)
	joined, _ := rights.Join(c, a, a)
	more, _ := rights.Put(c, a, 1, 2)
	for _, l := range [][]api.Row{rights.New(c), joined, more} {
		for i := range l {
			kept := own(l)
			for at := range l[i].Out[:cap(l[i].Out)] {
				l[i].Out[:cap(l[i].Out)][at] = -7
			}
			kept[i].Out = l[i].Out
			if !same(l, kept) {
				t.Errorf("rule 3: row %d shares its memory: %v", i, l)
			}
		}
	}
}
