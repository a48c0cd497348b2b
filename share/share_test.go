package share_test

import (
	"math"
	"math/rand"
	"slices"
	"testing"

	"coffers/api"
	"coffers/rights"
	"coffers/share"
)

// The greatest amount, and the most that may be moved from one to another one.
const (
	mostAmount = 1 << 40
	mostMove   = 1 << 50
)

// far are numbers that are below all that may be, or above: the ends of 64 bits, and such as would come out as another one in fewer bits.
var far = []int64{
	math.MinInt64, math.MinInt64 + 1, -1 << 62, -1 << 50, -mostAmount - 1, -mostAmount, -1 << 32, -2, -1,
	mostAmount + 1, mostAmount + 2, 2 * mostAmount, mostMove, 1 << 62, math.MaxInt64 - 1, math.MaxInt64,
}

// farWhos are no replicas of n, whatever n is, or n itself and the ones about it.
func farWhos(n int) []int {
	return []int{-1, -2, -n, n, n + 1, 2 * n, 16, 17, -1 << 32, 1 << 32, 1<<32 + 1, math.MinInt, math.MinInt + 1, math.MaxInt - 1, math.MaxInt}
}

// own are the same books in memory of their own.
func own(l []api.Row) []api.Row {
	l = slices.Clone(l)
	for i := range l {
		l[i].Out = slices.Clone(l[i].Out)
	}
	return l
}

// config is one of n replicas, with as much as that there at first.
func config(n int, k int64) api.Config { return api.Config{N: n, Q: 1, R: 1, P: 1, K: k} }

// dealt are books by which the replicas have these rights: all was there at first, and was moved.
func dealt(t *testing.T, has ...int64) (api.Config, []api.Row) {
	t.Helper()
	var all int64
	for _, v := range has {
		all += v
	}
	c := config(len(has), all)
	l := rights.New(c)
	over := make([]int64, len(has))
	for i, v := range has {
		over[i] = rights.Share(c, i) - v
	}
	for i := range has {
		for to := range has {
			if over[i] > 0 && over[to] < 0 {
				moved := min(over[i], -over[to])
				l[i].Out[to] += moved
				over[i], over[to] = over[i]-moved, over[to]+moved
			}
		}
	}
	holdRights(t, c, l, has)
	return c, l
}

// putIn are books by which the replicas have these rights: each put in what it has, and some that it used.
func putIn(t *testing.T, has ...int64) (api.Config, []api.Row) {
	t.Helper()
	c := config(len(has), 0)
	c.C = slices.Max(has) + 5
	l := rights.New(c)
	for i, v := range has {
		used := int64(i) % 6
		l[i].Inc, l[i].Use = v+used, used
	}
	holdRights(t, c, l, has)
	return c, l
}

// traded are books by which each has as much as by others, but each moved so much to each other one, and had it back.
func traded(l []api.Row, much int64) []api.Row {
	l = own(l)
	for i := range l {
		for to := range l {
			if i != to {
				l[i].Out[to] += much
			}
		}
	}
	return l
}

// holdRights: these are books by which the replicas have these rights.
func holdRights(t *testing.T, c api.Config, l []api.Row, has []int64) {
	t.Helper()
	for who, v := range has {
		if got := rights.Of(c, l, who); !rights.Right(c, l) || got != v {
			t.Fatalf("the test's own books %+v, %v: right %t, rights of %d: %d, want %d", c, l, rights.Right(c, l), who, got, v)
		}
	}
}

// spare: the words of spare.
func spare(has, keep int64) int64 {
	if keep < 0 {
		keep = 0
	}
	if has <= keep {
		return 0
	}
	return has - keep
}

// give: the words of Give, by the rights of all.
func give(has []int64, who int, keep int64) (to int, amount int64) {
	if who < 0 || who >= len(has) || len(has) == 1 {
		return 0, 0
	}
	var others []int
	for i := range has {
		if i != who {
			others = append(others, i)
		}
	}
	slices.SortStableFunc(others, func(a, b int) int {
		switch {
		case has[a] < has[b]:
			return -1
		case has[a] > has[b]:
			return 1
		}
		return a - b
	})
	to = others[0]
	above := spare(has[who], keep) - has[to]
	if above < 2 {
		return 0, 0
	}
	return to, (above - above&1) / 2
}

// grant: the words of Grant, by the rights of all.
func grant(has []int64, who int, keep int64, to int, need int64) int64 {
	if who < 0 || who >= len(has) || to < 0 || to >= len(has) || to == who || need < 1 || need > mostAmount {
		return 0
	}
	missing, most := need-has[to], spare(has[who], keep)
	switch {
	case missing < 1 || most < 1:
		return 0
	case missing > most:
		return most
	}
	return missing
}

// rightsOf are the rights of all.
func rightsOf(c api.Config, l []api.Row) []int64 {
	has := make([]int64, len(l))
	for who := range l {
		has[who] = rights.Of(c, l, who)
	}
	return has
}

// holdGive: Give answers this.
func holdGive(t *testing.T, c api.Config, l []api.Row, who int, keep int64, to int, amount int64) {
	t.Helper()
	if a, b := share.Give(c, l, who, keep); a != to || b != amount {
		t.Errorf("P13.1: Give(%+v, %v, %d, %d): %d, %d, want %d, %d", c, l, who, keep, a, b, to, amount)
	}
}

// holdGrant: Grant answers this.
func holdGrant(t *testing.T, c api.Config, l []api.Row, who int, keep int64, to int, need, want int64) {
	t.Helper()
	if got := share.Grant(c, l, who, keep, to, need); got != want {
		t.Errorf("P13.2: Grant(%+v, %v, %d, %d, %d, %d): %d, want %d", c, l, who, keep, to, need, got, want)
	}
}

// eachWay does something with books of both kinds by which the replicas have these rights, and with such as much was moved in.
func eachWay(t *testing.T, do func(c api.Config, l []api.Row), has ...int64) {
	t.Helper()
	c, l := dealt(t, has...)
	do(c, l)
	do(c, traded(l, 77))
	c, l = putIn(t, has...)
	do(c, l)
	do(c, traded(l, mostMove))
}

// TestExamples: P13.1 and P13.2, rights 9, 2, 4.
func TestExamples(t *testing.T) {
	eachWay(t, func(c api.Config, l []api.Row) {
		holdGive(t, c, l, 0, 1, 1, 3)
		holdGive(t, c, l, 1, 1, 0, 0)
		holdGive(t, c, l, 2, 1, 0, 0)
		holdGive(t, c, l, 2, 0, 1, 1)
		holdGrant(t, c, l, 0, 1, 1, 4, 2)
		holdGrant(t, c, l, 0, 1, 2, 4, 0)
		holdGrant(t, c, l, 0, 1, 2, 5, 1)
		holdGrant(t, c, l, 2, 1, 1, 4, 2)
		holdGrant(t, c, l, 1, 1, 0, 10, 1)
	}, 9, 2, 4)
}

// TestGivePoorest: P13.1, to whom: the poorest of the others, the one of the least number of alike ones, wherever who is; never who itself, however poor.
func TestGivePoorest(t *testing.T) {
	for _, x := range []struct {
		has    []int64
		who    int
		to     int
		amount int64
	}{
		{[]int64{9, 3, 3, 3}, 0, 1, 3},
		{[]int64{3, 9, 3, 3}, 1, 0, 3},
		{[]int64{3, 3, 9, 3}, 2, 0, 3},
		{[]int64{3, 3, 3, 9}, 3, 0, 3},
		{[]int64{9, 4, 3, 3}, 0, 2, 3},
		{[]int64{4, 9, 3, 3}, 1, 2, 3},
		{[]int64{4, 3, 9, 3}, 2, 1, 3},
		{[]int64{4, 3, 3, 9}, 3, 1, 3},
		{[]int64{9, 5, 4, 3}, 0, 3, 3},
		{[]int64{3, 5, 4, 9}, 3, 0, 3},
		{[]int64{9, 0, 0, 0}, 0, 1, 4},
		{[]int64{0, 0, 9, 0}, 2, 0, 4},
		{[]int64{9, 1, 0, 0}, 0, 2, 4},
		{[]int64{9, 0, 1, 0}, 0, 1, 4},
		{[]int64{1, 9, 0}, 1, 2, 4},
		{[]int64{7, 100, 7, 5, 5}, 1, 3, 47},
		{[]int64{7, 7, 7}, 0, 0, 0},
		{[]int64{7, 7, 7}, 1, 0, 0},
		{[]int64{7, 7, 7}, 2, 0, 0},
		{[]int64{1, 7, 7}, 0, 0, 0}, // who is the poorest of all: nobody is poorer
		{[]int64{7, 1, 7}, 1, 0, 0},
		{[]int64{7, 7, 1}, 2, 0, 0},
		{[]int64{0, 0, 0}, 1, 0, 0},
		{[]int64{mostAmount, 0}, 0, 1, mostAmount / 2},
		{[]int64{0, mostAmount}, 1, 0, mostAmount / 2},
		{[]int64{mostAmount - 2, 1, 1}, 0, 1, mostAmount/2 - 2},
	} {
		c, l := dealt(t, x.has...)
		holdGive(t, c, l, x.who, 0, x.to, x.amount)
		holdGive(t, c, traded(l, mostMove-mostAmount), x.who, 0, x.to, x.amount)
	}
}

// TestGivePoorestBesideWho: P13.1, who that keeps all but a little isn't held against itself: the poorest is one of the others, also where who has the least.
func TestGivePoorestBesideWho(t *testing.T) {
	for n := 2; n <= 16; n++ {
		for who := range n {
			has := slices.Repeat([]int64{20}, n)
			has[who] = 30
			c, l := dealt(t, has...)
			first := 0
			if who == 0 {
				first = 1
			}
			holdGive(t, c, l, who, 0, first, 5)
			holdGive(t, c, l, who, 8, first, 1)
			holdGive(t, c, l, who, 9, 0, 0)
			has[who] = 10
			c, l = dealt(t, has...)
			holdGive(t, c, l, who, 0, 0, 0)
		}
	}
}

// TestGiveAlone: P13.1, one replica alone gives nothing, whatever it has and keeps.
func TestGiveAlone(t *testing.T) {
	for _, v := range []int64{0, 1, 2, 9, mostAmount} {
		c, l := dealt(t, v)
		for _, keep := range slices.Concat([]int64{0, 1, v, v - 1, v + 1}, far) {
			holdGive(t, c, l, 0, keep, 0, 0)
			for _, who := range farWhos(1) {
				holdGive(t, c, l, who, keep, 0, 0)
			}
		}
	}
}

// TestGiveHalf: P13.1, half of each difference, odd or even, rounded down; none of 0 and of 1, one of 2 and of 3; of two, and of as many as may be.
func TestGiveHalf(t *testing.T) {
	for poor := range int64(4) {
		for difference := int64(-3); difference < 12; difference++ {
			if poor+difference < 0 {
				continue
			}
			rich := poor + difference
			amount, to := max(difference, 0)>>1, 0
			if amount > 0 {
				to = 1
			}
			eachWay(t, func(c api.Config, l []api.Row) { holdGive(t, c, l, 0, 0, to, amount) }, rich, poor)
			eachWay(t, func(c api.Config, l []api.Row) { holdGive(t, c, l, 1, 0, 0, amount) }, poor, rich)
			has := slices.Repeat([]int64{poor + 1}, 16)
			has[9], has[15] = poor, rich
			if amount > 0 {
				to = 9
			}
			eachWay(t, func(c api.Config, l []api.Row) { holdGive(t, c, l, 15, 0, to, amount) }, has...)
		}
	}
	c, l := dealt(t, mostAmount-1, 0)
	holdGive(t, c, l, 0, 0, 1, mostAmount/2-1)
	holdGive(t, c, l, 0, 1, 1, mostAmount/2-1)
	holdGive(t, c, l, 0, 2, 1, mostAmount/2-2)
	c, l = dealt(t, mostAmount-1, 1)
	holdGive(t, c, l, 0, 0, 1, mostAmount/2-1)
	holdGive(t, c, l, 0, 1, 1, mostAmount/2-2)
}

// TestGiveKeep: P13.1, each keep: below 0 is as 0, and just what who has, or more, leaves nothing.
func TestGiveKeep(t *testing.T) {
	eachWay(t, func(c api.Config, l []api.Row) {
		for keep := int64(0); keep < 30; keep++ {
			to, amount := 1, (17-keep)/2 // 20, and 3 there
			if keep > 15 {
				to, amount = 0, 0
			}
			holdGive(t, c, l, 0, keep, to, amount)
		}
		for _, keep := range far {
			if keep < 0 {
				holdGive(t, c, l, 0, keep, 1, 8)
			} else {
				holdGive(t, c, l, 0, keep, 0, 0)
			}
		}
	}, 20, 3, 5)
	// Nothing there: spare itself is halved, and is nothing where keep is all, or more.
	eachWay(t, func(c api.Config, l []api.Row) {
		holdGive(t, c, l, 1, -1, 0, 10)
		holdGive(t, c, l, 1, 0, 0, 10)
		holdGive(t, c, l, 1, 1, 0, 9)
		holdGive(t, c, l, 1, 18, 0, 1)
		holdGive(t, c, l, 1, 19, 0, 0)
		holdGive(t, c, l, 1, 20, 0, 0)
		holdGive(t, c, l, 1, 21, 0, 0)
		holdGive(t, c, l, 1, math.MaxInt64, 0, 0)
		holdGive(t, c, l, 1, math.MinInt64, 0, 10)
	}, 0, 20)
}

// TestGiveWho: P13.1, who from 0 to below N gives; any other one doesn't.
func TestGiveWho(t *testing.T) {
	for n := 2; n <= 16; n++ {
		has := make([]int64, n)
		has[n-1] = 9
		c, l := dealt(t, has...)
		holdGive(t, c, l, n-1, 0, 0, 4)
		holdGive(t, c, l, n-2, 0, 0, 0)
		for _, who := range farWhos(n) {
			if who >= 0 && who < n {
				continue
			}
			for _, keep := range []int64{math.MinInt64, -1, 0, 1, math.MaxInt64} {
				holdGive(t, c, l, who, keep, 0, 0)
			}
		}
	}
}

// wrongBooks are configs and books that aren't right by them; each is right but for one thing.
func wrongBooks(t *testing.T) (cs []api.Config, ls [][]api.Row) {
	spoil := func(do func(c *api.Config, l []api.Row) []api.Row) {
		c, l := dealt(t, 90, 20, 40)
		l = do(&c, l)
		cs, ls = append(cs, c), append(ls, l)
	}
	for _, do := range []func(c *api.Config){
		func(c *api.Config) { *c = api.Config{} },
		func(c *api.Config) { c.N = 0 },
		func(c *api.Config) { c.N = -3 },
		func(c *api.Config) { c.N = 17 },
		func(c *api.Config) { c.N = math.MaxInt },
		func(c *api.Config) { c.N = math.MinInt },
		func(c *api.Config) { c.N = 2 },
		func(c *api.Config) { c.N = 4 },
		func(c *api.Config) { c.Q = 0 },
		func(c *api.Config) { c.Q = 9 },
		func(c *api.Config) { c.R = -1 },
		func(c *api.Config) { c.R = 9 },
		func(c *api.Config) { c.P = 0 },
		func(c *api.Config) { c.P = 17 },
		func(c *api.Config) { c.K = -1 },
		func(c *api.Config) { c.K = mostAmount + 1 },
		func(c *api.Config) { c.K = math.MaxInt64 },
		func(c *api.Config) { c.C = -1 },
		func(c *api.Config) { c.C = mostAmount },
		func(c *api.Config) { c.C = math.MaxInt64 },
	} {
		spoil(func(c *api.Config, l []api.Row) []api.Row { do(c); return l })
	}
	for _, do := range []func(l []api.Row) []api.Row{
		func(l []api.Row) []api.Row { return nil },
		func(l []api.Row) []api.Row { return l[:0] },
		func(l []api.Row) []api.Row { return l[:1] },
		func(l []api.Row) []api.Row { return l[:2] },
		func(l []api.Row) []api.Row { return append(l, api.Row{Out: []int64{0, 0, 0}}) },
		func(l []api.Row) []api.Row { return append(l, own(l)...) },
		func(l []api.Row) []api.Row { l[0].Out = nil; return l },
		func(l []api.Row) []api.Row { l[2].Out = l[2].Out[:2]; return l },
		func(l []api.Row) []api.Row { l[2].Out = append(l[2].Out, 0); return l },
		func(l []api.Row) []api.Row { l[1].Out = append(l[1].Out, 0, 0); return l },
		func(l []api.Row) []api.Row { l[0].Out[0] = 1; return l },
		func(l []api.Row) []api.Row { l[1].Out[2] = -1; return l },
		func(l []api.Row) []api.Row {
			l[1].Out[2], l[2].Out[1] = mostMove+1, mostMove+1
			return l
		},
		func(l []api.Row) []api.Row { l[1].Inc = 1; return l }, // C is 0
		func(l []api.Row) []api.Row { l[1].Inc = -1; return l },
		func(l []api.Row) []api.Row { l[1].Use = -1; return l },
		func(l []api.Row) []api.Row { l[1].Use = 21; return l }, // 1 has 20
		func(l []api.Row) []api.Row { l[1].Out[0] = 81; return l },
	} {
		spoil(func(c *api.Config, l []api.Row) []api.Row { return do(l) })
	}
	return cs, ls
}

// TestWrongBooks: P13.1 and P13.2, by books that aren't right, or a config that may not be, nothing is given or granted, whoever does so.
func TestWrongBooks(t *testing.T) {
	cs, ls := wrongBooks(t)
	for i, c := range cs {
		for who := -1; who < 5; who++ {
			for _, keep := range []int64{math.MinInt64, -1, 0, 1, 50, math.MaxInt64} {
				holdGive(t, c, ls[i], who, keep, 0, 0)
				for to := -1; to < 5; to++ {
					holdGrant(t, c, ls[i], who, keep, to, 60, 0)
					holdGrant(t, c, ls[i], who, keep, to, mostAmount, 0)
				}
			}
		}
	}
	// What was spoilt were books by which something is given and granted.
	c, l := dealt(t, 90, 20, 40)
	holdGive(t, c, l, 0, 0, 1, 35)
	holdGrant(t, c, l, 2, 0, 1, 60, 40)
}

// TestGrantNeed: P13.2, each need: below to's rights, just as much, one more, as much as spare covers, one more, far above it, and such as may not be.
func TestGrantNeed(t *testing.T) {
	eachWay(t, func(c api.Config, l []api.Row) {
		for need := int64(-3); need < 40; need++ {
			holdGrant(t, c, l, 0, 4, 1, need, min(max(need-5, 0), 16)) // 5 there, and 16 to spare
			holdGrant(t, c, l, 1, 2, 0, need, min(max(need-20, 0), 3))
			holdGrant(t, c, l, 2, 0, 1, need, 0)
			holdGrant(t, c, l, 0, 0, 2, need, min(max(need, 0), 20))
		}
		holdGrant(t, c, l, 0, 4, 1, mostAmount-1, 16)
		holdGrant(t, c, l, 0, 4, 1, mostAmount, 16)
		holdGrant(t, c, l, 0, 0, 2, mostAmount, 20)
		for _, need := range far {
			for who := range 3 {
				for to := range 3 {
					holdGrant(t, c, l, who, 0, to, need, 0)
					holdGrant(t, c, l, who, -1, to, need, 0)
				}
			}
		}
	}, 20, 5, 0)
}

// TestGrantMost: P13.2, the least need and the greatest one, where all that may be is there.
func TestGrantMost(t *testing.T) {
	c, l := dealt(t, mostAmount, 0)
	holdGrant(t, c, l, 0, 0, 1, mostAmount, mostAmount)
	holdGrant(t, c, l, 0, 1, 1, mostAmount, mostAmount-1)
	holdGrant(t, c, l, 0, 0, 1, mostAmount-1, mostAmount-1)
	holdGrant(t, c, l, 0, mostAmount-1, 1, mostAmount, 1)
	holdGrant(t, c, l, 0, mostAmount, 1, mostAmount, 0)
	holdGrant(t, c, l, 0, mostAmount+1, 1, mostAmount, 0)
	holdGrant(t, c, l, 0, 0, 1, mostAmount+1, 0)
	holdGrant(t, c, l, 0, 0, 1, math.MaxInt64, 0)
	holdGrant(t, c, l, 0, 0, 1, 1, 1)
	holdGrant(t, c, l, 0, 0, 1, 0, 0)
	holdGrant(t, c, l, 1, 0, 0, mostAmount, 0)
	c, l = dealt(t, mostAmount-1, 1)
	holdGrant(t, c, l, 0, 0, 1, 1, 0)
	holdGrant(t, c, l, 0, 0, 1, 2, 1)
	holdGrant(t, c, l, 0, 0, 1, mostAmount, mostAmount-1)
	holdGrant(t, c, l, 1, 0, 0, mostAmount, 1)
	holdGrant(t, c, l, 1, 0, 0, mostAmount-1, 0)
}

// TestGrantKeep: P13.2, each keep: below 0 is as 0, and just what who has, or more, leaves nothing.
func TestGrantKeep(t *testing.T) {
	eachWay(t, func(c api.Config, l []api.Row) {
		for keep := int64(-3); keep < 30; keep++ {
			holdGrant(t, c, l, 1, keep, 0, 99, min(max(20-keep, 0), 20))
			holdGrant(t, c, l, 1, keep, 0, 9, min(max(20-keep, 0), 6))
		}
		for _, keep := range far {
			want := int64(0)
			if keep < 0 {
				want = 20
			}
			holdGrant(t, c, l, 1, keep, 0, 99, want)
		}
	}, 3, 20)
}

// TestGrantWho: P13.2, who and to from 0 to below N, and two of them; any others grant nothing, and are granted nothing.
func TestGrantWho(t *testing.T) {
	for n := 1; n <= 16; n++ {
		has := make([]int64, n)
		for i := range has {
			has[i] = 9
		}
		c, l := dealt(t, has...)
		for who := range n {
			for to := range n {
				want := int64(6)
				if who == to {
					want = 0
				}
				holdGrant(t, c, l, who, 0, to, 15, want)
			}
			for _, none := range farWhos(n) {
				if none >= 0 && none < n {
					continue
				}
				holdGrant(t, c, l, who, 0, none, 15, 0)
				holdGrant(t, c, l, none, 0, who, 15, 0)
				holdGrant(t, c, l, none, -1, none, 15, 0)
				holdGrant(t, c, l, none, 0, -none, 15, 0)
			}
		}
	}
}

// TestGrantAnybody: P13.2, asked for, also by one that isn't the poorest, also by a richer one, what is asked for is granted.
func TestGrantAnybody(t *testing.T) {
	eachWay(t, func(c api.Config, l []api.Row) {
		holdGrant(t, c, l, 0, 0, 1, 6, 3)
		holdGrant(t, c, l, 0, 0, 2, 6, 1)
		holdGrant(t, c, l, 0, 0, 3, 99, 4)
		holdGrant(t, c, l, 1, 0, 3, 31, 1)
		holdGrant(t, c, l, 3, 10, 0, 12, 8)
	}, 4, 3, 5, 30)
}

// drawnBooks are right books behind some steps, of few or of many replicas, of which now and then much was moved.
func drawnBooks(draw *rand.Rand) (api.Config, []api.Row) {
	c := api.Config{N: 1 + draw.Intn(4), Q: 1 + draw.Intn(8), R: draw.Intn(9), P: 1 + draw.Intn(16), K: draw.Int63n(30), C: draw.Int63n(9)}
	if draw.Intn(4) == 0 {
		c.N = 1 + draw.Intn(16)
		c.C = draw.Int63n(mostAmount/int64(c.N) + 1)
		c.K = draw.Int63n(mostAmount - int64(c.N)*c.C + 1)
	}
	l := rights.New(c)
	if draw.Intn(3) == 0 {
		l = traded(l, mostMove-draw.Int63n(6))
	}
	for range draw.Intn(20) {
		l = drawnStep(draw, c, l)
	}
	return c, l
}

// drawnStep is books behind a step that may be; the same ones, if it may not.
func drawnStep(draw *rand.Rand, c api.Config, l []api.Row) []api.Row {
	who, amount := draw.Intn(c.N), 1+draw.Int63n(6)
	if most := rights.Of(c, l, who); most > 0 && draw.Intn(2) == 0 {
		amount = 1 + draw.Int63n(most)
	}
	out, code := rights.Move(c, l, who, draw.Intn(c.N), amount)
	switch draw.Intn(4) {
	case 0:
		out, code = rights.Put(c, l, who, amount)
	case 1:
		out, code = rights.Take(c, l, who, amount)
	}
	if code != api.OK {
		return l
	}
	return out
}

// about are numbers about those that play a part, and such as are far from all.
func about(draw *rand.Rand, parts ...int64) int64 {
	switch draw.Intn(5) {
	case 0:
		return far[draw.Intn(len(far))]
	case 1:
		return draw.Int63n(40) - 4
	}
	return parts[draw.Intn(len(parts))] + draw.Int63n(5) - 2
}

// TestByWords: P13.1 and P13.2, drawn books and numbers come to what the words say.
func TestByWords(t *testing.T) {
	draw := rand.New(rand.NewSource(1))
	given, granted := 0, 0
	for range 4000 {
		c, l := drawnBooks(draw)
		has := rightsOf(c, l)
		for range 10 {
			who, to := draw.Intn(c.N+2)-1, draw.Intn(c.N+2)-1
			near := int64(0)
			if who >= 0 && who < c.N {
				near = has[who]
			}
			keep := about(draw, 0, near, near/2)
			need := about(draw, near, slices.Max(has), slices.Min(has), mostAmount)
			a, b := give(has, who, keep)
			holdGive(t, c, l, who, keep, a, b)
			want := grant(has, who, keep, to, need)
			holdGrant(t, c, l, who, keep, to, need, want)
			if b > 0 {
				given++
			}
			if want > 0 {
				granted++
			}
		}
	}
	if given < 1000 || granted < 1000 {
		t.Errorf("the test's own draws: only %d given, %d granted", given, granted)
	}
}

// holdMoved: P13.3, what was given or granted may be moved, unless that would be above what may be moved; both are behind it as they should be.
func holdMoved(t *testing.T, c api.Config, l []api.Row, who, to int, amount int64) []api.Row {
	t.Helper()
	want := api.OK
	if l[who].Out[to] > mostMove-amount {
		want = api.Range
	}
	out, code := rights.Move(c, l, who, to, amount)
	if code != want {
		t.Errorf("P13.3: Move(%+v, %v, %d, %d, %d): %d, want %d", c, l, who, to, amount, code, want)
	}
	return out
}

// TestMayBeMoved: P13.3, what is given or granted may be moved; who gives stays no poorer than whom it gives to, keeps as much as it keeps, and to has no more than it needs.
func TestMayBeMoved(t *testing.T) {
	draw := rand.New(rand.NewSource(2))
	ranged := 0
	for range 10000 {
		c, l := drawnBooks(draw)
		has := rightsOf(c, l)
		who, to := draw.Intn(c.N), draw.Intn(c.N)
		keep, need := draw.Int63n(has[who]+3)-1, 1+draw.Int63n(2*has[to]+9)
		if poorest, amount := share.Give(c, l, who, keep); amount > 0 {
			if out := holdMoved(t, c, l, who, poorest, amount); out == nil {
				ranged++
			} else if left := rights.Of(c, out, who); left < rights.Of(c, out, poorest) || left < keep {
				t.Errorf("P13.3: of %v, keep %d: %d gives %d to %d: %v", has, keep, who, amount, poorest, rightsOf(c, out))
			}
		}
		if amount := share.Grant(c, l, who, keep, to, need); amount > 0 {
			if out := holdMoved(t, c, l, who, to, amount); out == nil {
				ranged++
			} else if rights.Of(c, out, who) < keep || rights.Of(c, out, to) > need {
				t.Errorf("P13.3: of %v, keep %d: %d grants %d to %d, need %d: %v", has, keep, who, amount, to, need, rightsOf(c, out))
			}
		}
	}
	if ranged == 0 {
		t.Error("the test's own draws: never was too much moved")
	}
}

// TestNearMaxMove: P13.3, with each of the last numbers that may be moved: what is given and granted hangs on the rights alone, and moves just where there is room.
func TestNearMaxMove(t *testing.T) {
	for less := range int64(9) {
		c, l := putIn(t, 9, 1, 4)
		l = traded(l, mostMove-less)
		holdGive(t, c, l, 0, 0, 1, 4)
		holdGive(t, c, l, 0, 2, 1, 3)
		holdGrant(t, c, l, 0, 0, 1, 99, 9)
		holdGrant(t, c, l, 0, 3, 1, 99, 6)
		holdGrant(t, c, l, 0, 0, 2, 9, 5)
		for _, amount := range []int64{4, 3, 9, 6} {
			if out := holdMoved(t, c, l, 0, 1, amount); (out != nil) != (amount <= less) {
				t.Errorf("P13.3: %d less than may be was moved, and %d more: %v", less, amount, out)
			}
		}
	}
}

// TestEvens: P13.3, given again and again, unasked, the rights of all come to be alike but for one, and then nothing is given.
func TestEvens(t *testing.T) {
	for n := 2; n <= 16; n++ {
		has := make([]int64, n)
		has[n/2] = 1000
		c, l := dealt(t, has...)
		moves := 0
		for at := 0; at < n; at++ {
			if to, amount := share.Give(c, l, at, 0); amount > 0 {
				l = holdMoved(t, c, l, at, to, amount)
				at = -1
				if moves++; moves > 5000 {
					t.Fatalf("P13.3: %d replicas give without end", n)
				}
			}
		}
		has = rightsOf(c, l)
		if slices.Max(has)-slices.Min(has) > 1 {
			t.Errorf("P13.1: nothing more is given: %v", has)
		}
	}
}

// handed are right books with spare room behind the rows and behind each row's numbers, none of it zero.
func handed() (api.Config, []api.Row) {
	c := api.Config{N: 3, Q: 1, P: 1, K: 15, C: 3}
	numbers := func(out ...int64) []int64 { return append(out, -7, -7, -7, -7)[:len(out)] }
	l := []api.Row{
		{Inc: 3, Use: 1, Out: numbers(0, 2, 3)},
		{Inc: 1, Use: 2, Out: numbers(4, 0, 1)},
		{Inc: 0, Use: 2, Out: numbers(4, 2, 0)},
		{Inc: -9, Use: -9, Out: numbers(-9)},
		{Inc: -9, Use: -9, Out: numbers(-9)},
	}
	return c, l[:3]
}

// room is all that books hold, their spare room too.
func room(l []api.Row) []int64 {
	var all []int64
	for _, r := range l[:cap(l)] {
		all = append(all, r.Inc, r.Use, int64(len(r.Out)))
		all = append(all, r.Out[:cap(r.Out)]...)
	}
	return all
}

// TestBooksStay: rules 3 and 4, the books that came in stay as they were, their spare room too, right or not; the answers hang on the arguments alone.
func TestBooksStay(t *testing.T) {
	c, l := handed()
	kept := room(l)
	has := []int64{10, 3, 1}
	holdRights(t, c, l, has)
	for range 3 {
		for who := -1; who < 4; who++ {
			for keep := int64(-1); keep < 15; keep++ {
				a, b := give(has, who, keep)
				holdGive(t, c, l, who, keep, a, b)
				for to := -1; to < 4; to++ {
					holdGrant(t, c, l, who, keep, to, 8, grant(has, who, keep, to, 8))
				}
			}
		}
		if !slices.Equal(room(l), kept) {
			t.Fatalf("rule 3: what was handed in is %v now, want %v", room(l), kept)
		}
	}
	for _, wrong := range [][]api.Row{l[:2], l[:4], l[:0]} {
		holdGive(t, c, wrong, 0, 0, 0, 0)
		holdGrant(t, c, wrong, 0, 0, 1, 8, 0)
		if !slices.Equal(room(l), kept) {
			t.Fatalf("rule 3: what was handed in is %v now, want %v", room(l), kept)
		}
	}
}

// TestWrittenOver: rules 3 and 4, books written over behind a call are asked anew: nothing of them was kept.
func TestWrittenOver(t *testing.T) {
	c, l := dealt(t, 9, 2, 4)
	holdGive(t, c, l, 0, 1, 1, 3)
	holdGrant(t, c, l, 0, 1, 1, 4, 2)
	_, other := dealt(t, 2, 9, 4)
	for i, r := range other {
		copy(l[i].Out, r.Out)
	}
	holdGive(t, c, l, 0, 1, 0, 0)
	holdGive(t, c, l, 1, 1, 0, 3)
	holdGrant(t, c, l, 0, 1, 1, 4, 0)
	holdGrant(t, c, l, 1, 1, 0, 4, 2)
}
