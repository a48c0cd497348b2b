package stamp_test

import (
	"math"
	"math/big"
	"math/rand"
	"slices"
	"testing"

	"coffers/api"
	"coffers/stamp"
)

// edges are the times about which something changes: about 0, about 2^50, and the ends of 64 bits.
var edges = []int64{
	math.MinInt64, math.MinInt64 + 1, -1 << 50, -2, -1, 0, 1, 2, 3, 1 << 31, 1 << 32,
	1<<50 - 2, 1<<50 - 1, 1 << 50, 1<<50 + 1, 1 << 62, math.MaxInt64 - 1, math.MaxInt64,
}

// whos are replicas that may be, and others.
var whos = []int{math.MinInt, -17, -1, 0, 1, 2, 14, 15, 16, 17, math.MaxInt}

// at is a stamp, written short.
func at(time int64, who int) api.Stamp { return api.Stamp{Time: time, Who: who} }

// stamps are all pairs of an edge and a replica, also those that may not be.
func stamps() []api.Stamp {
	var list []api.Stamp
	for _, time := range edges {
		for _, who := range whos {
			list = append(list, at(time, who))
		}
	}
	return list
}

// order is -1, if a is older, 1, if b is, else 0: as one greater number of both, the time ahead.
func order(a, b api.Stamp) int {
	whole := func(s api.Stamp) *big.Int {
		v := new(big.Int).Lsh(big.NewInt(s.Time), 64)
		return v.Add(v, big.NewInt(int64(s.Who)))
	}
	return whole(a).Cmp(whole(b))
}

// TestMay: P3.1, the edges of the time and of who told it, and n that leave nobody.
func TestMay(t *testing.T) {
	for _, x := range []struct {
		s    api.Stamp
		n    int
		want bool
	}{
		{at(1, 0), 1, true},
		{at(1<<50, 0), 1, true},
		{at(1, 2), 3, true},
		{at(1<<50, 2), 3, true},
		{at(5, 1), 3, true},
		{at(5, 15), 16, true},
		{at(1<<50-1, 0), 16, true},
		{at(0, 0), 3, false},
		{at(-1, 0), 3, false},
		{at(math.MinInt64, 0), 3, false},
		{at(1<<50+1, 0), 3, false},
		{at(math.MaxInt64, 0), 3, false},
		{at(1, -1), 3, false},
		{at(1, math.MinInt), 3, false},
		{at(1, 3), 3, false},
		{at(1, 4), 3, false},
		{at(1, 1), 1, false},
		{at(5, 16), 16, false},
		{at(1, math.MaxInt), 3, false},
		{at(1, 0), 0, false},
		{at(1, -1), 0, false},
		{at(1, 0), -1, false},
		{at(1, -1), -1, false},
		{at(1, -2), -1, false},
		{at(1, 0), math.MinInt, false},
		{at(0, 0), 0, false},
		{at(0, -1), 0, false},
	} {
		if got := stamp.May(x.s, x.n); got != x.want {
			t.Errorf("P3.1: May(%v, %d): %t, want %t", x.s, x.n, got, x.want)
		}
	}
}

// TestMayByWords: P3.1, each pair of a time and a replica, each n: both from-to hold, by numbers that have no bounds.
func TestMayByWords(t *testing.T) {
	within := func(v, low, high int64) bool { // from low to below high
		x := big.NewInt(v)
		return x.Cmp(big.NewInt(low)) >= 0 && x.Cmp(big.NewInt(high)) < 0
	}
	for _, s := range stamps() {
		for n := -3; n <= 18; n++ {
			want := within(s.Time, 1, 1<<50+1) && within(int64(s.Who), 0, int64(n))
			if got := stamp.May(s, n); got != want {
				t.Errorf("P3.1: May(%v, %d): %t, want %t", s, n, got, want)
			}
		}
	}
}

// TestOlder: P3.1, by the time, of alike times by who.
func TestOlder(t *testing.T) {
	for _, x := range []struct {
		a, b api.Stamp
		want bool
	}{
		{at(5, 1), at(5, 2), true},
		{at(5, 2), at(5, 1), false},
		{at(5, 1), at(5, 1), false},
		{at(4, 2), at(5, 1), true},
		{at(5, 1), at(4, 2), false},
		{at(4, 1), at(5, 2), true},
		{at(4, 1), at(5, 1), true},
		{at(5, 1), at(4, 1), false},
		{at(1, 15), at(1<<50, 0), true},
		{at(1<<50, 0), at(1, 15), false},
		{at(1<<50, 0), at(1<<50, 15), true},
		{at(0, 0), at(0, 0), false},
		{at(-1, 3), at(0, 0), true}, // of any two, also of such as may not be
		{at(0, -1), at(0, 0), true},
		{at(math.MinInt64, 0), at(math.MaxInt64, 0), true}, // so far apart that their difference has no 64 bits
		{at(math.MaxInt64, 0), at(math.MinInt64, 0), false},
		{at(3, math.MinInt), at(3, math.MaxInt), true},
		{at(3, math.MaxInt), at(3, math.MinInt), false},
	} {
		if got := stamp.Older(x.a, x.b); got != x.want {
			t.Errorf("P3.1: Older(%v, %v): %t, want %t", x.a, x.b, got, x.want)
		}
	}
}

// TestOlderByWords: P3.1, of any two, at all edges.
func TestOlderByWords(t *testing.T) {
	list := stamps()
	for _, a := range list {
		for _, b := range list {
			if got, want := stamp.Older(a, b), order(a, b) < 0; got != want {
				t.Errorf("P3.1: Older(%v, %v): %t, want %t", a, b, got, want)
			}
		}
	}
}

// TestTick: P3.2, one more than the greater, the edges, and which code comes first.
func TestTick(t *testing.T) {
	for _, x := range []struct {
		own, seen, want int64
		code            api.Code
	}{
		{3, 7, 8, api.OK},
		{7, 3, 8, api.OK},
		{7, 7, 8, api.OK},
		{0, 0, 1, api.OK},
		{0, 5, 6, api.OK},
		{5, 0, 6, api.OK},
		{1<<50 - 1, 0, 1 << 50, api.OK},
		{0, 1<<50 - 1, 1 << 50, api.OK},
		{1<<50 - 1, 1<<50 - 1, 1 << 50, api.OK},
		{1<<50 - 2, 1<<50 - 3, 1<<50 - 1, api.OK},
		{1 << 50, 0, 0, api.Range},
		{0, 1 << 50, 0, api.Range},
		{1 << 50, 1 << 50, 0, api.Range},
		{1<<50 + 1, 4, 0, api.Range},
		{4, 1<<50 + 1, 0, api.Range},
		{math.MaxInt64 - 1, 4, 0, api.Range},
		{math.MaxInt64, 4, 0, api.Range},
		{4, math.MaxInt64, 0, api.Range},
		{math.MaxInt64, math.MaxInt64, 0, api.Range},
		{-1, 3, 0, api.Arg},
		{3, -1, 0, api.Arg},
		{-1, 0, 0, api.Arg},
		{0, -1, 0, api.Arg},
		{-1, -1, 0, api.Arg},
		{-2, -9, 0, api.Arg},
		{math.MinInt64, 0, 0, api.Arg},
		{0, math.MinInt64, 0, api.Arg},
		{math.MinInt64, math.MinInt64, 0, api.Arg},
		{-1, 1 << 50, 0, api.Arg}, // Arg is named ahead of Range
		{1 << 50, -1, 0, api.Arg},
		{math.MaxInt64, -1, 0, api.Arg},
		{-1, math.MaxInt64, 0, api.Arg},
	} {
		if got, code := stamp.Tick(x.own, x.seen); got != x.want || code != x.code {
			t.Errorf("P3.2: Tick(%d, %d): %d, %d, want %d, %d", x.own, x.seen, got, code, x.want, x.code)
		}
	}
}

// TestTickByWords: P3.2, all pairs of edges, by numbers that have no bounds.
func TestTickByWords(t *testing.T) {
	for _, own := range edges {
		for _, seen := range edges {
			sum := new(big.Int).Add(big.NewInt(max(own, seen)), big.NewInt(1))
			want, code := sum.Int64(), api.OK
			switch {
			case own < 0 || seen < 0:
				want, code = 0, api.Arg
			case sum.Cmp(big.NewInt(1<<50)) > 0:
				want, code = 0, api.Range
			}
			if got, c := stamp.Tick(own, seen); got != want || c != code {
				t.Errorf("P3.2: Tick(%d, %d): %d, %d, want %d, %d", own, seen, got, c, want, code)
			}
		}
	}
}

// TestOldest: P3.2, the oldest one first, last, between others, twice, and alone.
func TestOldest(t *testing.T) {
	for _, x := range []struct {
		l    []api.Stamp
		want api.Stamp
	}{
		{[]api.Stamp{at(9, 3)}, at(9, 3)},
		{[]api.Stamp{at(2, 1), at(3, 0), at(4, 0)}, at(2, 1)},
		{[]api.Stamp{at(4, 0), at(3, 0), at(2, 1)}, at(2, 1)},
		{[]api.Stamp{at(4, 0), at(2, 1), at(3, 0)}, at(2, 1)},
		{[]api.Stamp{at(2, 1), at(3, 0), at(2, 1)}, at(2, 1)},
		{[]api.Stamp{at(3, 0), at(2, 1), at(2, 1), at(5, 5)}, at(2, 1)},
		{[]api.Stamp{at(6, 6), at(6, 6)}, at(6, 6)},
		{[]api.Stamp{at(5, 2), at(5, 1)}, at(5, 1)},
		{[]api.Stamp{at(5, 1), at(5, 2)}, at(5, 1)},
		{[]api.Stamp{at(5, 2), at(5, 0), at(5, 1)}, at(5, 0)},
		{[]api.Stamp{at(1<<50, 15), at(1<<50, 14)}, at(1<<50, 14)},
		{[]api.Stamp{at(1<<50, 0), at(1, 15)}, at(1, 15)},
		{[]api.Stamp{{}}, api.Stamp{}}, // such as may not be are stamps here, too
		{[]api.Stamp{at(1, 0), {}}, api.Stamp{}},
		{[]api.Stamp{{}, at(-3, 7)}, at(-3, 7)},
		{[]api.Stamp{at(math.MaxInt64, math.MaxInt)}, at(math.MaxInt64, math.MaxInt)},
		{[]api.Stamp{at(math.MaxInt64, 0), at(math.MinInt64, 0)}, at(math.MinInt64, 0)},
	} {
		if got, ok := stamp.Oldest(x.l); got != x.want || !ok {
			t.Errorf("P3.2: Oldest(%v): %v, %t, want %v, true", x.l, got, ok, x.want)
		}
	}
}

// TestOldestOfNone: P3.2, of none the zero one and false, whatever lies in the spare room.
func TestOldestOfNone(t *testing.T) {
	for _, l := range [][]api.Stamp{nil, {}, []api.Stamp{at(3, 1), at(2, 2)}[:0]} {
		if got, ok := stamp.Oldest(l); got != (api.Stamp{}) || ok {
			t.Errorf("P3.2: Oldest of none: %v, %t", got, ok)
		}
	}
}

// TestOldestByWords: P3.2, of drawn stamps, many of them alike, it is one of them, and none of them is older.
func TestOldestByWords(t *testing.T) {
	draw := rand.New(rand.NewSource(1))
	for range 3000 {
		l := make([]api.Stamp, 1+draw.Intn(20))
		for i := range l {
			l[i] = at(edges[draw.Intn(len(edges))], draw.Intn(4))
		}
		got, ok := stamp.Oldest(l)
		if want := slices.MinFunc(l, order); got != want || !ok {
			t.Errorf("P3.2: Oldest(%v): %v, %t, want %v, true", l, got, ok, want)
		}
	}
}

// TestJustOneIsOlder: P3.3, of two unlike stamps just one is older, of two alike ones none.
func TestJustOneIsOlder(t *testing.T) {
	list := stamps()
	for _, a := range list {
		for _, b := range list {
			ab, ba := stamp.Older(a, b), stamp.Older(b, a)
			if a == b && (ab || ba) || a != b && ab == ba {
				t.Errorf("P3.3: Older(%v, %v): %t, and turned round: %t", a, b, ab, ba)
			}
		}
	}
}

// TestOlderThanOlder: P3.3, what is older than an older one is older: so some have one oldest.
func TestOlderThanOlder(t *testing.T) {
	list := stamps()
	slices.SortFunc(list, order)
	for i := range list {
		for j := range i {
			if !stamp.Older(list[j], list[i]) {
				t.Errorf("P3.3: %v isn't older than %v", list[j], list[i])
			}
		}
	}
}

// TestTicksAbove: P3.3, what ticks is above both that it saw, and with it a stamp comes behind all of theirs.
func TestTicksAbove(t *testing.T) {
	draw := rand.New(rand.NewSource(2))
	clock := int64(0)
	for range 3000 {
		seen := draw.Int63n(1 << (1 + draw.Intn(45)))
		got, code := stamp.Tick(clock, seen)
		if code != api.OK || got <= clock || got <= seen {
			t.Fatalf("P3.3: Tick(%d, %d): %d, %d", clock, seen, got, code)
		}
		if !stamp.May(at(got, 0), 1) {
			t.Errorf("P3.3: Tick(%d, %d): %d, a time that no stamp may have", clock, seen, got)
		}
		for _, old := range []int64{clock, seen} {
			if !stamp.Older(at(old, 15), at(got, 0)) {
				t.Errorf("P3.3: a stamp of %d isn't older than one of %d, which ticked behind it", old, got)
			}
		}
		clock = got
	}
	for _, own := range edges {
		for _, seen := range edges {
			if got, code := stamp.Tick(own, seen); code == api.OK && (got <= own || got <= seen) {
				t.Errorf("P3.3: Tick(%d, %d): %d", own, seen, got)
			}
		}
	}
}

// TestHandedIn: rules 3 and 4, what is handed in stays as it is, its spare room too, and the answer hangs on the arguments alone.
func TestHandedIn(t *testing.T) {
	whole := []api.Stamp{at(7, 1), at(4, 3), at(4, 2), at(8, 0), at(1, 1), at(2, 2)}
	kept := slices.Clone(whole)
	for range 3 {
		if got, ok := stamp.Oldest(whole[:4]); got != at(4, 2) || !ok {
			t.Errorf("P3.2: Oldest, called anew: %v, %t", got, ok)
		}
		if !slices.Equal(whole, kept) {
			t.Fatalf("rule 3: what was handed in is %v now", whole)
		}
	}
}
