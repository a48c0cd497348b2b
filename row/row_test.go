package row_test

import (
	"math"
	"math/big"
	"math/rand"
	"slices"
	"testing"

	"coffers/api"
	"coffers/row"
)

// edges are the numbers about which something changes: about 0, about 2^40 and 2^50, and the ends of 64 bits.
var edges = []int64{
	math.MinInt64, math.MinInt64 + 1, -1 << 50, -1 << 40, -2, -1, 0, 1, 2, 1 << 31, 1 << 32,
	1<<40 - 1, 1 << 40, 1<<40 + 1, 1<<50 - 1, 1 << 50, 1<<50 + 1, 1 << 62, math.MaxInt64 - 1, math.MaxInt64,
}

// of is a row, written short.
func of(inc, use int64, out ...int64) api.Row { return api.Row{Inc: inc, Use: use, Out: out} }

// many are n numbers v.
func many(n int, v int64) []int64 { return slices.Repeat([]int64{v}, n) }

// numbers are all of a row, one behind the other.
func numbers(r api.Row) []int64 { return append([]int64{r.Inc, r.Use}, r.Out...) }

// alike: the same by all numbers, as the document's words tell it.
func alike(a, b api.Row) bool { return slices.Equal(numbers(a), numbers(b)) }

// behind: as many numbers, and each at most that of the other one in its place.
func behind(a, b api.Row) bool {
	if len(a.Out) != len(b.Out) {
		return false
	}
	ahead := 0
	for i, v := range numbers(a) {
		if big.NewInt(v).Cmp(big.NewInt(numbers(b)[i])) > 0 {
			ahead++
		}
	}
	return ahead == 0
}

// joined is in each place the greater number of two rows of as many numbers.
func joined(a, b api.Row) api.Row {
	l := numbers(a)
	for i, v := range numbers(b) {
		if v > l[i] {
			l[i] = v
		}
	}
	return of(l[0], l[1], l[2:]...)
}

// drawn is a row of n numbers Out, of few unlike numbers, so that places are often alike.
func drawn(draw *rand.Rand, n int) api.Row {
	pick := func() int64 {
		if draw.Intn(3) == 0 {
			return edges[draw.Intn(len(edges))]
		}
		return draw.Int63n(3)
	}
	r := of(pick(), pick())
	for range n {
		r.Out = append(r.Out, pick())
	}
	return r
}

// rows are some of each kind: without numbers Out, with one, two, three and 17 of them, that may be and that may not.
func rows() []api.Row {
	list := []api.Row{{}, {Out: []int64{}}, of(1, 0), of(0, 1), of(1<<40, 1<<40), of(math.MinInt64, math.MaxInt64)}
	for _, v := range edges {
		list = append(list, of(0, 0, v), of(v, 0, 0), of(0, v, 0), of(v, v, v), of(0, 0, 0, v), of(0, 0, v, 0), of(3, 1, 0, v, 2))
	}
	draw := rand.New(rand.NewSource(1))
	for range 60 {
		list = append(list, drawn(draw, draw.Intn(4)))
	}
	return append(list, of(0, 0, many(17, 0)...), of(0, 0, many(17, 1)...))
}

// TestMay: P4.1, the edges of each number, of how many there are, and of who.
func TestMay(t *testing.T) {
	for _, x := range []struct {
		r      api.Row
		n, who int
		want   bool
	}{
		{of(3, 1, 0, 5, 2), 3, 0, true},
		{of(3, 1, 5, 0, 2), 3, 1, true},
		{of(3, 1, 5, 2, 0), 3, 2, true},
		{of(0, 0, 0), 1, 0, true},
		{of(1<<40, 1<<40, 0), 1, 0, true},
		{of(0, 1<<40, 0, 0), 2, 1, true}, // what was moved to it may be used: Use isn't held against Inc
		{of(1<<40, 0, 1<<50, 0), 2, 1, true},
		{of(0, 0, 0, 1<<50), 2, 0, true},
		{of(0, 0, append(many(15, 1<<50), 0)...), 16, 15, true},
		{of(0, 0, append([]int64{0}, many(15, 1<<50)...)...), 16, 0, true},
		{of(0, 0, many(16, 0)...), 16, 7, true},

		{of(-1, 0, 0), 1, 0, false},
		{of(0, -1, 0), 1, 0, false},
		{of(1<<40+1, 0, 0), 1, 0, false},
		{of(0, 1<<40+1, 0), 1, 0, false},
		{of(1<<50, 0, 0), 1, 0, false}, // the limit of what is moved isn't that of Inc and Use
		{of(0, 1<<50, 0), 1, 0, false},
		{of(math.MinInt64, 0, 0), 1, 0, false},
		{of(math.MaxInt64, 0, 0), 1, 0, false},
		{of(0, math.MinInt64, 0), 1, 0, false},
		{of(0, math.MaxInt64, 0), 1, 0, false},
		{of(0, 0, 0, -1), 2, 0, false},
		{of(0, 0, 0, 1<<50+1), 2, 0, false},
		{of(0, 0, 0, math.MinInt64), 2, 0, false},
		{of(0, 0, 0, math.MaxInt64), 2, 0, false},
		{of(0, 0, 0, 5, -1, 5), 4, 0, false},
		{of(0, 0, 0, 5, 1<<50+1, 5), 4, 0, false},

		{of(0, 0, 1), 1, 0, false}, // moved to itself
		{of(0, 0, -1), 1, 0, false},
		{of(0, 0, math.MaxInt64), 1, 0, false},
		{of(0, 0, 0, 5), 2, 1, false},
		{of(0, 0, 5, 0), 2, 0, false},
		{of(3, 1, 0, 5, 2), 3, 1, false},
		{of(3, 1, 0, 5, 2), 3, 2, false},

		{of(0, 0, 0, 0), 1, 0, false}, // more, or fewer, than n
		{of(0, 0, 0, 0), 3, 0, false},
		{of(0, 0), 1, 0, false},
		{of(0, 0, 0), 2, 1, false},
		{of(0, 0, many(17, 0)...), 16, 0, false},
		{of(0, 0, many(15, 0)...), 16, 0, false},

		{of(0, 0), 0, 0, false}, // nobody there whose row it could be
		{of(0, 0), 0, -1, false},
		{of(0, 0), -1, 0, false},
		{of(0, 0), -1, -2, false},
		{of(0, 0, 0), 0, 0, false},
		{of(0, 0, 0), -1, 0, false},
		{of(0, 0, 0), math.MinInt, 0, false},
		{of(0, 0, 0), math.MaxInt, 0, false},
		{of(0, 0, 0), 1, -1, false},
		{of(0, 0, 0), 1, 1, false},
		{of(0, 0, 0, 0, 0), 3, 3, false},
		{of(0, 0, 0, 0, 0), 3, 4, false},
		{of(0, 0, 0, 0, 0), 3, math.MinInt, false},
		{of(0, 0, 0, 0, 0), 3, math.MaxInt, false},
	} {
		if got := row.May(x.r, x.n, x.who); got != x.want {
			t.Errorf("P4.1: May(%v, %d, %d): %t, want %t", x.r, x.n, x.who, got, x.want)
		}
	}
}

// TestMayEachPlace: P4.1, each edge in each place of a row that else may be, of each who, among 1 to 16.
func TestMayEachPlace(t *testing.T) {
	for n := 1; n <= 16; n++ {
		for who := range n {
			for _, v := range edges {
				for _, x := range []struct {
					r    api.Row
					want bool
				}{
					{of(v, 7, many(n, 0)...), v >= 0 && v <= 1<<40},
					{of(7, v, many(n, 0)...), v >= 0 && v <= 1<<40},
				} {
					if got := row.May(x.r, n, who); got != x.want {
						t.Errorf("P4.1: May(%v, %d, %d): %t, want %t", x.r, n, who, got, x.want)
					}
				}
				for to := range n {
					r := of(7, 7, many(n, 4)...)
					r.Out[who] = 0
					r.Out[to] = v
					want := v >= 0 && v <= 1<<50 && (to != who || v == 0)
					if got := row.May(r, n, who); got != want {
						t.Errorf("P4.1: May(%v, %d, %d): %t, want %t", r, n, who, got, want)
					}
				}
			}
		}
	}
}

// TestMayOfHowMany: P4.1, rows without anything, of each how many numbers, n and who: n must be so many, and who one of them.
func TestMayOfHowMany(t *testing.T) {
	for size := range 17 {
		for n := -2; n <= 18; n++ {
			for who := -2; who <= 18; who++ {
				r := of(0, 0, make([]int64, size)...)
				want := n == size && who >= 0 && who < n
				if got := row.May(r, n, who); got != want {
					t.Errorf("P4.1: May(%v, %d, %d): %t, want %t", r, n, who, got, want)
				}
			}
		}
	}
}

// TestBehind: P4.1, rows that are the same, ahead in one place, each ahead of the other one somewhere, and of unlike many numbers.
func TestBehind(t *testing.T) {
	for _, x := range []struct {
		a, b api.Row
		want bool
	}{
		{of(3, 1, 0, 5, 2), of(3, 1, 0, 5, 2), true},
		{of(3, 1, 0, 5, 2), of(4, 2, 1, 6, 3), true},
		{of(3, 1, 0, 5, 2), of(4, 1, 0, 5, 2), true},
		{of(3, 1, 0, 5, 2), of(3, 2, 0, 5, 2), true},
		{of(3, 1, 0, 5, 2), of(3, 1, 1, 5, 2), true},
		{of(3, 1, 0, 5, 2), of(3, 1, 0, 5, 3), true},
		{of(4, 1, 0, 5, 2), of(3, 1, 0, 5, 2), false},
		{of(3, 2, 0, 5, 2), of(3, 1, 0, 5, 2), false},
		{of(3, 1, 1, 5, 2), of(3, 1, 0, 5, 2), false},
		{of(3, 1, 0, 6, 2), of(3, 1, 0, 5, 2), false},
		{of(3, 1, 0, 5, 3), of(3, 1, 0, 5, 2), false},
		{of(3, 1, 0, 5), of(2, 1, 0, 7), false}, // each is ahead of the other one somewhere
		{of(2, 1, 0, 7), of(3, 1, 0, 5), false},
		{of(2, 9, 0, 7), of(3, 1, 0, 7), false},
		{of(0, 0, 1, 0), of(0, 0, 0, 1), false},
		{of(0, 0), of(0, 0), true}, // without numbers Out
		{of(1, 0), of(2, 0), true},
		{of(2, 0), of(1, 0), false},
		{of(0, 1), of(0, 0), false},
		{api.Row{}, api.Row{Out: []int64{}}, true},
		{api.Row{Out: []int64{}}, api.Row{}, true},
		{of(0, 0), of(0, 0, 0), false}, // unlike many
		{of(0, 0, 0), of(0, 0), false},
		{of(0, 0, 0), of(9, 9, 9, 9), false},
		{of(0, 0, 0, 0), of(9, 9, 9), false},
		{of(0, 0), of(9, 9, 9, 9, 9), false},
		{of(-5, -5, -5), of(-4, -4, -4), true}, // of any two, also of such as may not be
		{of(-4, -4, -4), of(-5, -5, -5), false},
		{of(math.MinInt64, 0, 0), of(math.MaxInt64, 0, 0), true}, // so far apart that their difference has no 64 bits
		{of(math.MaxInt64, 0, 0), of(math.MinInt64, 0, 0), false},
		{of(0, math.MinInt64, 0), of(0, math.MaxInt64, 0), true},
		{of(0, math.MaxInt64, 0), of(0, math.MinInt64, 0), false},
		{of(0, 0, math.MinInt64), of(0, 0, math.MaxInt64), true},
		{of(0, 0, math.MaxInt64), of(0, 0, math.MinInt64), false},
		{of(0, 0, many(17, 1)...), of(0, 0, many(17, 1)...), true},
		{of(0, 0, append(many(16, 1), 2)...), of(0, 0, many(17, 1)...), false},
	} {
		if got := row.Behind(x.a, x.b); got != x.want {
			t.Errorf("P4.1: Behind(%v, %v): %t, want %t", x.a, x.b, got, x.want)
		}
	}
}

// TestSame: P4.1, alike in each number and in how many they are.
func TestSame(t *testing.T) {
	for _, x := range []struct {
		a, b api.Row
		want bool
	}{
		{of(3, 1, 0, 5, 2), of(3, 1, 0, 5, 2), true},
		{of(3, 1, 0, 5, 2), of(4, 1, 0, 5, 2), false},
		{of(3, 1, 0, 5, 2), of(3, 2, 0, 5, 2), false},
		{of(3, 1, 0, 5, 2), of(3, 1, 1, 5, 2), false},
		{of(3, 1, 0, 5, 2), of(3, 1, 0, 6, 2), false},
		{of(3, 1, 0, 5, 2), of(3, 1, 0, 5, 3), false},
		{of(3, 1), of(1, 3), false},
		{of(0, 0, 5, 2), of(0, 0, 2, 5), false},
		{of(0, 0), of(0, 0), true},
		{api.Row{}, api.Row{Out: []int64{}}, true},
		{api.Row{Out: []int64{}}, api.Row{}, true},
		{of(0, 0), of(0, 0, 0), false},
		{of(0, 0, 0), of(0, 0, 0, 0), false},
		{of(0, 0, 5), of(0, 0, 5, 0), false},
		{of(-1, -2, -3), of(-1, -2, -3), true},
		{of(-1, -2, -3), of(1, 2, 3), false},
		{of(math.MinInt64, 0, 0), of(math.MaxInt64, 0, 0), false},
		{of(math.MinInt64, math.MaxInt64, math.MinInt64), of(math.MinInt64, math.MaxInt64, math.MinInt64), true},
		{of(0, 0, many(17, 1)...), of(0, 0, many(17, 1)...), true},
		{of(0, 0, append(many(16, 1), 2)...), of(0, 0, many(17, 1)...), false},
	} {
		if got := row.Same(x.a, x.b); got != x.want {
			t.Errorf("P4.1: Same(%v, %v): %t, want %t", x.a, x.b, got, x.want)
		}
		if got := row.Same(x.b, x.a); got != x.want {
			t.Errorf("P4.1: Same(%v, %v): %t, want %t", x.b, x.a, got, x.want)
		}
	}
}

// TestTwoByWords: P4.1 and P4.2, Behind, Same and Join of any two rows come to what the document's words say.
func TestTwoByWords(t *testing.T) {
	list := rows()
	for _, a := range list {
		for _, b := range list {
			if got, want := row.Behind(a, b), behind(a, b); got != want {
				t.Errorf("P4.1: Behind(%v, %v): %t, want %t", a, b, got, want)
			}
			if got, want := row.Same(a, b), alike(a, b); got != want {
				t.Errorf("P4.1: Same(%v, %v): %t, want %t", a, b, got, want)
			}
			var want api.Row
			may := len(a.Out) == len(b.Out)
			if may {
				want = joined(a, b)
			}
			if got, ok := row.Join(a, b); !alike(got, want) || ok != may {
				t.Errorf("P4.2: Join(%v, %v): %v, %t, want %v, %t", a, b, got, ok, want, may)
			}
		}
	}
}

// TestJoin: P4.2, in each place the greater number; rows that are the same, ahead in turn, and without numbers Out.
func TestJoin(t *testing.T) {
	for _, x := range []struct{ a, b, want api.Row }{
		{of(3, 0, 0, 5), of(2, 0, 0, 7), of(3, 0, 0, 7)},
		{of(3, 1, 0, 5, 2), of(2, 4, 0, 7, 1), of(3, 4, 0, 7, 2)},
		{of(3, 1, 0, 5, 2), of(3, 1, 0, 5, 2), of(3, 1, 0, 5, 2)},
		{of(3, 1, 0, 5, 2), of(9, 9, 9, 9, 9), of(9, 9, 9, 9, 9)},
		{of(3, 1, 0, 5, 2), of(0, 0, 0, 0, 0), of(3, 1, 0, 5, 2)},
		{of(1<<40, 0, 1<<50, 0), of(0, 1<<40, 0, 1<<50), of(1<<40, 1<<40, 1<<50, 1<<50)},
		{of(0, 0), of(0, 0), of(0, 0)},
		{of(4, 1), of(2, 6), of(4, 6)},
		{of(4, 1), api.Row{Inc: 5, Out: []int64{}}, of(5, 1)},
		{of(-1, -5, -3), of(-2, -4, -9), of(-1, -4, -3)}, // such as may not be are rows here, too
		{of(math.MinInt64, math.MaxInt64, 0), of(math.MaxInt64, math.MinInt64, 1), of(math.MaxInt64, math.MaxInt64, 1)},
		{of(0, 0, many(17, 1)...), of(0, 0, append(many(16, 0), 2)...), of(0, 0, append(many(16, 1), 2)...)},
	} {
		if got, ok := row.Join(x.a, x.b); !alike(got, x.want) || !ok {
			t.Errorf("P4.2: Join(%v, %v): %v, %t, want %v, true", x.a, x.b, got, ok, x.want)
		}
		if got, ok := row.Join(x.b, x.a); !alike(got, x.want) || !ok {
			t.Errorf("P4.2: Join(%v, %v): %v, %t, want %v, true", x.b, x.a, got, ok, x.want)
		}
	}
}

// TestJoinOfUnlikeMany: P4.2, the zero row and false, also where one has no numbers Out.
func TestJoinOfUnlikeMany(t *testing.T) {
	list := []api.Row{{}, of(3, 4), of(3, 4, 5), of(3, 4, 0, 5), of(3, 4, 0, 5, 6), of(3, 4, many(16, 2)...), of(3, 4, many(17, 2)...)}
	for _, a := range list {
		for _, b := range list {
			got, ok := row.Join(a, b)
			if len(a.Out) != len(b.Out) && (got.Inc != 0 || got.Use != 0 || len(got.Out) != 0 || ok) {
				t.Errorf("P4.2: Join(%v, %v): %v, %t, want the zero row, false", a, b, got, ok)
			}
		}
	}
}

// TestSent: P4.1, the numbers Out together; else 0: one that may not be, wherever it stands, or 17 of them.
func TestSent(t *testing.T) {
	for _, x := range []struct {
		r    api.Row
		want int64
	}{
		{of(3, 1, 0, 5, 2), 7},
		{of(0, 0), 0},
		{api.Row{}, 0},
		{api.Row{Inc: 9, Use: 8}, 0},
		{of(0, 0, 0), 0},
		{of(0, 0, 5), 5}, // whose row it is isn't told: no number must be 0
		{of(0, 0, 5, 6), 11},
		{of(1<<40, 1<<40, 0, 1), 1},
		{of(0, 0, 1<<50), 1 << 50},
		{of(0, 0, 1<<50, 1), 1<<50 + 1},
		{of(0, 0, many(16, 1<<50)...), 1 << 54},
		{of(0, 0, append([]int64{0}, many(15, 1<<50)...)...), 15 << 50},
		{of(0, 0, many(16, 1)...), 16},
		{of(-1, 1<<40+1, 0, 5), 5}, // its numbers Out alone play a part

		{of(0, 0, many(17, 0)...), 0},
		{of(0, 0, many(17, 1)...), 0},
		{of(0, 0, many(17, 1<<50)...), 0},
		{of(0, 0, many(300, 1)...), 0},
		{of(0, 0, 1, -1), 0},
		{of(0, 0, 5, -1), 0},
		{of(0, 0, -1, 5), 0},
		{of(0, 0, -1), 0},
		{of(0, 0, 1<<50+1), 0},
		{of(0, 0, 5, 1<<50+1), 0},
		{of(0, 0, 1<<50+1, 5), 0},
		{of(0, 0, 1<<50+1, -1), 0},
		{of(0, 0, 3, math.MinInt64), 0},
		{of(0, 0, 3, math.MaxInt64), 0},
		{of(0, 0, math.MaxInt64, math.MaxInt64), 0},
		{of(0, 0, math.MinInt64, math.MinInt64), 0},
		{of(0, 0, append(many(15, 1), -1)...), 0},
	} {
		if got := row.Sent(x.r); got != x.want {
			t.Errorf("P4.1: Sent(%v): %d, want %d", x.r, got, x.want)
		}
	}
}

// TestSentEachPlace: P4.1, each edge in each place of 0 to 18 numbers, by numbers that have no bounds.
func TestSentEachPlace(t *testing.T) {
	for n := range 19 {
		for at := range n {
			for _, v := range edges {
				r := of(7, 7, many(n, 1<<50)...)
				r.Out[at] = v
				sum := big.NewInt(0)
				for _, moved := range r.Out {
					sum.Add(sum, big.NewInt(moved))
				}
				want := sum.Int64()
				if v < 0 || v > 1<<50 || n > 16 {
					want = 0
				}
				if got := row.Sent(r); got != want {
					t.Errorf("P4.1: Sent(%v): %d, want %d", r, got, want)
				}
			}
		}
	}
}

// must is two rows of as many numbers, joined.
func must(t *testing.T, a, b api.Row) api.Row {
	t.Helper()
	out, ok := row.Join(a, b)
	if !ok {
		t.Fatalf("P4.3: Join(%v, %v): false", a, b)
	}
	return out
}

// TestJoinInAnyOrder: P4.3, the other way round, with itself, with what it was made of, and by threes in any order.
func TestJoinInAnyOrder(t *testing.T) {
	draw := rand.New(rand.NewSource(2))
	for range 4000 {
		n := draw.Intn(18)
		a, b, c := drawn(draw, n), drawn(draw, n), drawn(draw, n)
		ab := must(t, a, b)
		if ba := must(t, b, a); !row.Same(ab, ba) {
			t.Errorf("P4.3: %v and %v joined: %v, the other way round: %v", a, b, ab, ba)
		}
		if aa := must(t, a, a); !row.Same(aa, a) {
			t.Errorf("P4.3: %v joined with itself: %v", a, aa)
		}
		if again := must(t, ab, a); !row.Same(again, ab) {
			t.Errorf("P4.3: %v joined with %v, of which it was made: %v", ab, a, again)
		}
		whole := must(t, ab, c)
		for _, other := range []api.Row{must(t, a, must(t, b, c)), must(t, must(t, a, c), b), must(t, c, must(t, b, a))} {
			if !row.Same(whole, other) {
				t.Errorf("P4.3: %v, %v and %v joined: %v, in another order: %v", a, b, c, whole, other)
			}
		}
	}
}

// TestJoinIsLeast: P4.3, neither is ahead of what is joined, it is behind each row that neither is ahead of, and a row that is less in one place isn't enough.
func TestJoinIsLeast(t *testing.T) {
	draw := rand.New(rand.NewSource(3))
	for range 4000 {
		n := draw.Intn(5)
		a, b, c := drawn(draw, n), drawn(draw, n), drawn(draw, n)
		out := must(t, a, b)
		if !row.Behind(a, out) || !row.Behind(b, out) {
			t.Errorf("P4.3: %v and %v joined: %v, which is behind one of them", a, b, out)
		}
		if row.Behind(a, c) && row.Behind(b, c) && !row.Behind(out, c) {
			t.Errorf("P4.3: %v and %v joined: %v, which is ahead of %v", a, b, out, c)
		}
		for i, v := range numbers(out) {
			if v == math.MinInt64 {
				continue
			}
			l := numbers(out)
			l[i]--
			if less := of(l[0], l[1], l[2:]...); row.Behind(a, less) && row.Behind(b, less) {
				t.Errorf("P4.3: %v and %v joined: %v, but %v is enough", a, b, out, less)
			}
		}
	}
}

// TestJoinMayBe: P4.3, joined rows of a replica may be that replica's: what is joined is nowhere above both.
func TestJoinMayBe(t *testing.T) {
	draw := rand.New(rand.NewSource(4))
	one := func(n, who int) api.Row {
		r := of(draw.Int63n(1<<40+1), draw.Int63n(1<<40+1))
		for range n {
			r.Out = append(r.Out, draw.Int63n(1<<50+1))
		}
		r.Out[who] = 0
		return r
	}
	for range 1000 {
		n := 1 + draw.Intn(16)
		who := draw.Intn(n)
		a, b := one(n, who), one(n, who)
		if out := must(t, a, b); !row.May(a, n, who) || !row.May(b, n, who) || !row.May(out, n, who) {
			t.Errorf("P4.3: %v and %v joined: %v, not all of which may be the row of %d among %d", a, b, out, who, n)
		}
	}
}

// TestHandedIn: rules 3 and 4, what is handed in stays as it is, its spare room too, what is answered has memory of its own, and hangs on the arguments alone.
func TestHandedIn(t *testing.T) {
	wholeA, wholeB := []int64{0, 5, 2, 91, 92, 93}, []int64{0, 7, 1, 94, 95, 96}
	keptA, keptB := slices.Clone(wholeA), slices.Clone(wholeB)
	a, b := of(3, 1, wholeA[:3]...), of(2, 4, wholeB[:3]...)
	for range 3 {
		out, ok := row.Join(a, b)
		if !alike(out, of(3, 4, 0, 7, 2)) || !ok {
			t.Errorf("P4.2: Join, called anew: %v, %t", out, ok)
		}
		if !row.May(a, 3, 0) || row.Behind(a, b) || row.Same(a, b) || row.Sent(a) != 7 {
			t.Errorf("P4.1: called anew, something else is answered")
		}
		for _, r := range []api.Row{a, b} {
			self, _ := row.Join(r, r)
			for i := range self.Out {
				self.Out[i] = -1
			}
			_ = append(self.Out, -1)
		}
		for i := range out.Out {
			out.Out[i] = -1
		}
		_ = append(out.Out, -1)
		if !slices.Equal(wholeA, keptA) || !slices.Equal(wholeB, keptB) {
			t.Fatalf("rule 3: what was handed in is %v and %v now", wholeA, wholeB)
		}
	}
}
