package want_test

import (
	"math"
	"math/rand"
	"slices"
	"testing"

	"coffers/want"
)

// mostAmount is the greatest amount that may be, counted how many numbers of a list count.
const (
	mostAmount = 1 << 40
	counted    = 64
)

// noParts are numbers that play no part: below 0, above all that may be asked for, and as small and as great as can be.
var noParts = []int64{
	-1, -2, -5, -64, -mostAmount, -mostAmount - 1, -1 << 53, math.MinInt64 + 1, math.MinInt64,
	mostAmount + 1, mostAmount + 2, 2 * mostAmount, 1 << 46, 1<<53 + 1, 1 << 62, math.MaxInt64 - 1, math.MaxInt64,
}

// amounts are such as may be asked for: the least, the greatest, those beside them, odd ones and even ones.
var amounts = []int64{1, 2, 3, 4, 5, 7, 8, 1000, 1<<31 - 1, 1 << 31, 1<<32 + 1, 1<<39 - 1, mostAmount - 2, mostAmount - 1, mostAmount}

// lengths are those about which something might change, and far more.
var lengths = []int{0, 1, 2, 3, 31, 32, 33, 62, 63, 64, 65, 66, 127, 128, 129, 256, 5000}

// many is one number n times.
func many(n int, v int64) []int64 {
	l := make([]int64, n)
	for i := range l {
		l[i] = v
	}
	return l
}

// rising is a list of n numbers no two of which are alike, from a first one on.
func rising(n int, first int64) []int64 {
	l := make([]int64, n)
	for i := range l {
		l[i] = first + int64(i)
	}
	return l
}

// over is a list, n times in a row.
func over(n int, l ...int64) []int64 { return slices.Repeat(l, n) }

// join is lists, one behind the other.
func join(l ...[]int64) []int64 { return slices.Concat(l...) }

// byWords is the estimate of a list, as the document's words have it, by whole numbers.
func byWords(l []int64) (much, often int64) {
	for i, v := range l {
		if len(l)-i > counted {
			continue
		}
		if v == 0 {
			much, often = much>>1, often>>1
		}
		if 0 < v && v <= mostAmount {
			much, often = much+v, often+1
		}
	}
	return much, often
}

// keptByWords is a list with one more behind it, the first ones of which go till 64 are left.
func keptByWords(l []int64, more int64) []int64 {
	l = append(slices.Clone(l), more)
	for len(l) > counted {
		l = l[1:]
	}
	return l
}

// drawn is a list of n numbers of all kinds: amounts, times that went by, and such as play no part.
func drawn(draw *rand.Rand, n int) []int64 {
	zeros, none := draw.Intn(4), draw.Intn(3)
	l := make([]int64, n)
	for i := range l {
		switch kind := draw.Intn(10); {
		case kind < zeros: // it is 0
		case kind < zeros+none:
			l[i] = noParts[draw.Intn(len(noParts))]
		case kind == 9:
			l[i] = amounts[draw.Intn(len(amounts))]
		default:
			l[i] = 1 + draw.Int63n(int64(1)<<draw.Intn(41))
		}
	}
	return l
}

// short is as much of a list's end as is told where something is wrong.
func short(l []int64) []int64 { return l[max(len(l)-80, 0):] }

// holdEstimate: Estimate answers this.
func holdEstimate(t *testing.T, l []int64, much, often int64) {
	t.Helper()
	if m, o := want.Estimate(l); m != much || o != often {
		t.Errorf("P12.1: Estimate of %d numbers, .. %v: %d, %d, want %d, %d", len(l), short(l), m, o, much, often)
	}
}

// holdKeep: Keep answers this.
func holdKeep(t *testing.T, l []int64, more int64, kept []int64) {
	t.Helper()
	if got := want.Keep(l, more); !slices.Equal(got, kept) {
		t.Errorf("P12.1: Keep of %d numbers, .. %v, and %d: %v, want %v", len(l), short(l), more, got, kept)
	}
}

// TestEstimateExamples: P12.1, estimates that are known: no number, one, odd parts that are halved, and what plays no part.
func TestEstimateExamples(t *testing.T) {
	for _, x := range []struct {
		l           []int64
		much, often int64
	}{
		{nil, 0, 0},
		{[]int64{}, 0, 0},
		{[]int64{0}, 0, 0},
		{[]int64{0, 0, 0}, 0, 0},
		{[]int64{1}, 1, 1},
		{[]int64{mostAmount}, mostAmount, 1},
		{[]int64{mostAmount + 1}, 0, 0},
		{[]int64{-1}, 0, 0},
		{[]int64{8, 4, 0}, 6, 1},
		{[]int64{8, 4, 0, 0}, 3, 0},
		{[]int64{8, 4, 0, 0, 0}, 1, 0},
		{[]int64{8, 4, 0, 0, 0, 0}, 0, 0},
		{[]int64{0, 8, 4}, 12, 2}, // the time that went by ahead of them changes nothing
		{[]int64{8, 0, 4}, 8, 1},
		{[]int64{4, 0, 8}, 10, 1},
		{[]int64{7, 0}, 3, 0},
		{[]int64{7, 0, 7}, 10, 1},
		{[]int64{7, 0, 7, 0}, 5, 0},
		{[]int64{1, 1, 1, 0}, 1, 1},
		{[]int64{1, 1, 1, 0, 1, 0}, 1, 1},
		{[]int64{1, 1, 1, 1, 1, 0, 0}, 1, 1},
		{[]int64{5, 5, 5, 5, 5, 5, 5, 0}, 17, 3},
		{[]int64{5, 5, 5, 5, 5, 5, 5, 0, 0}, 8, 1},
		{[]int64{1, 0, 1, 0, 1, 0, 1}, 1, 1}, // halves never come to a whole
		{[]int64{8, -8, 4, mostAmount + 1, 0, math.MinInt64}, 6, 1},
		{[]int64{mostAmount, mostAmount - 1, 0}, mostAmount - 1, 1},
		{[]int64{mostAmount - 1, 0}, 1<<39 - 1, 0},
	} {
		holdEstimate(t, x.l, x.much, x.often)
	}
}

// TestAmounts: P12.1, each amount, from 1 to the greatest one, alone, as often as counts, and halved till nothing is left.
func TestAmounts(t *testing.T) {
	for _, v := range amounts {
		for n := range counted + 1 {
			holdEstimate(t, many(n, v), int64(n)*v, int64(n))
		}
		for n := range counted {
			holdEstimate(t, join([]int64{v}, many(n, 0)), v>>n, 1>>n)
			holdEstimate(t, join(many(n, 0), []int64{v}), v, 1)
		}
	}
}

// TestNoParts: P12.1, 0 amounts and below, and those above the greatest one, play no part, wherever they stand; also where all are such.
func TestNoParts(t *testing.T) {
	for _, v := range noParts {
		for _, n := range lengths {
			holdEstimate(t, many(n, v), 0, 0)
		}
		list := []int64{8, 7, 0, 5, mostAmount, 0, 3}
		much, often := byWords(list)
		for at := range len(list) + 1 {
			holdEstimate(t, slices.Insert(slices.Clone(list), at, v), much, often)
			holdEstimate(t, slices.Insert(slices.Clone(list), at, many(57, v)...), much, often)
		}
	}
}

// TestNoPartsCount: P12.1, what plays no part has its place among the last 64 all the same.
func TestNoPartsCount(t *testing.T) {
	for _, v := range noParts {
		for n := range counted + 3 {
			much, often := int64(9), int64(1)
			if n >= counted {
				much, often = 0, 0
			}
			holdEstimate(t, join([]int64{9}, many(n, v)), much, often)
		}
	}
}

// TestLastOnes: P12.1, of each length the last 64 numbers count, and what lies ahead of them plays no part, whatever it is.
func TestLastOnes(t *testing.T) {
	for _, n := range lengths {
		l := rising(n, 1)
		var much, often int64
		for _, v := range l[max(n-counted, 0):] {
			much, often = much+v, often+1
		}
		holdEstimate(t, l, much, often)
		for _, ahead := range [][]int64{{mostAmount}, {0}, {-1}, many(300, mostAmount), many(64, 0), noParts} {
			if n >= counted {
				holdEstimate(t, join(ahead, l), much, often)
			}
		}
	}
	// The first one that counts, and the last one that doesn't.
	holdEstimate(t, join([]int64{5}, many(63, -1)), 5, 1)
	holdEstimate(t, join([]int64{5}, many(64, -1)), 0, 0)
	holdEstimate(t, join([]int64{5, 0}, many(63, 1)), 63, 63)
	holdEstimate(t, join([]int64{5, 0}, many(62, 1)), 64, 62)
	// The room behind a list plays no part.
	holdEstimate(t, rising(9, 1)[:3], 6, 3)
	holdEstimate(t, rising(9, 1)[:0], 0, 0)
}

// TestGreatest: P12.1, 64 times the greatest amount, and each halving of that.
func TestGreatest(t *testing.T) {
	holdEstimate(t, many(64, mostAmount), 1<<46, 64)
	holdEstimate(t, many(65, mostAmount), 1<<46, 64)
	holdEstimate(t, many(5000, mostAmount), 1<<46, 64)
	for zeros := range counted + 1 {
		n := int64(counted - zeros)
		holdEstimate(t, join(many(64, mostAmount), many(zeros, 0)), n*mostAmount>>zeros, n>>zeros)
		holdEstimate(t, join(many(64, mostAmount-1), many(zeros, 0)), n*(mostAmount-1)>>zeros, n>>zeros)
	}
}

// TestRoundedDown: P12.1, both parts are whole behind each halving: no half of long ago makes a later amount greater.
func TestRoundedDown(t *testing.T) {
	for n := range 32 {
		holdEstimate(t, over(n, 1, 0), 0, 0)
		holdEstimate(t, join(over(n, 1, 0), []int64{mostAmount}), mostAmount, 1)
		holdEstimate(t, join(over(n, 1, 0), []int64{mostAmount, mostAmount - 1}), 2*mostAmount-1, 2)
		holdEstimate(t, join(over(n, 3, 0), []int64{mostAmount}), mostAmount+min(int64(n), 2), 1) // 3 and 2 together are halved to 2 again and again
	}
}

// TestEstimateByWords: P12.1, drawn lists of each length come to what the words say.
func TestEstimateByWords(t *testing.T) {
	draw := rand.New(rand.NewSource(1))
	for range 200 {
		for n := range 140 {
			l := drawn(draw, n)
			much, often := byWords(l)
			holdEstimate(t, l, much, often)
		}
	}
}

// TestKeep: P12.1, behind none, one, 62, 63, 64, 65 and far more: each one more, whatever number it is, and in the same order.
func TestKeep(t *testing.T) {
	holdKeep(t, nil, 9, []int64{9})
	holdKeep(t, []int64{}, 0, []int64{0})
	holdKeep(t, []int64{1}, -2, []int64{1, -2})
	holdKeep(t, rising(62, 1), 63, rising(63, 1))
	holdKeep(t, rising(63, 1), 64, rising(64, 1))
	holdKeep(t, rising(64, 1), 65, rising(64, 2))
	holdKeep(t, rising(65, 1), 66, rising(64, 3))
	holdKeep(t, rising(5000, 1), 5001, rising(64, 4938))
	// What lies in the spare room isn't what was asked.
	holdKeep(t, rising(9, 1)[:2], 7, []int64{1, 2, 7})
	holdKeep(t, rising(90, 1)[:64], 7, join(rising(63, 2), []int64{7}))
	for _, n := range lengths {
		for _, more := range slices.Concat([]int64{0}, amounts, noParts) {
			holdKeep(t, rising(n, -7), more, keptByWords(rising(n, -7), more))
			holdKeep(t, many(n, more), more, many(min(n+1, counted), more))
		}
	}
}

// TestKeepByWords: P12.1, drawn lists of each length, and one more, come to what the words say.
func TestKeepByWords(t *testing.T) {
	draw := rand.New(rand.NewSource(2))
	for range 50 {
		for n := range 140 {
			l, more := drawn(draw, n), drawn(draw, 1)[0]
			holdKeep(t, l, more, keptByWords(l, more))
		}
	}
}

// TestKeptOneByOne: P12.2, what is kept one by one has the same estimate as all, behind each one; it is the last 64 of all, or fewer.
func TestKeptOneByOne(t *testing.T) {
	draw := rand.New(rand.NewSource(3))
	for range 60 {
		var kept []int64
		all := drawn(draw, 300)
		for i, v := range all {
			kept = want.Keep(kept, v)
			if len(kept) > counted || !slices.Equal(kept, all[max(i+1-counted, 0):i+1]) {
				t.Fatalf("P12.1: of %v, %v are kept", all[:i+1], kept)
			}
			much, often := want.Estimate(all[:i+1])
			if m, o := want.Estimate(kept); m != much || o != often {
				t.Fatalf("P12.2: of %v all is %d, %d, what is kept %d, %d", all[:i+1], much, often, m, o)
			}
			if m, o := byWords(all[:i+1]); m != much || o != often {
				t.Fatalf("P12.1: %v: %d, %d, want %d, %d", all[:i+1], much, often, m, o)
			}
		}
	}
}

// TestKeptOfAny: P12.2, what is kept of any list and one more has the same estimate as both, also where the list is longer than what is ever kept.
func TestKeptOfAny(t *testing.T) {
	draw := rand.New(rand.NewSource(4))
	for range 20 {
		for _, n := range lengths {
			l, more := drawn(draw, n), drawn(draw, 1)[0]
			much, often := want.Estimate(join(l, []int64{more}))
			if m, o := want.Estimate(want.Keep(l, more)); m != much || o != often {
				t.Errorf("P12.2: of .. %v and %d all is %d, %d, what is kept %d, %d", short(l), more, much, often, m, o)
			}
		}
	}
}

// holdBound: P12.2, much is from 0 to the greatest amount times one more than often, and often no more than count.
func holdBound(t *testing.T, l []int64) {
	t.Helper()
	much, often := want.Estimate(l)
	if often < 0 || often > counted || much < often || much > mostAmount*(often+1) {
		t.Errorf("P12.2: Estimate of .. %v: %d, %d", short(l), much, often)
	}
}

// TestBound: P12.2, much stays within its bound: drawn lists, and those that come as near to it as can be.
func TestBound(t *testing.T) {
	draw := rand.New(rand.NewSource(5))
	for range 200 {
		for n := range 140 {
			holdBound(t, drawn(draw, n))
			l := many(n, mostAmount)
			for i := range l {
				l[i] *= int64(draw.Intn(2))
			}
			holdBound(t, l)
		}
	}
	// Whenever one is halved that was asked for once, what is missing to the bound is halved, too.
	for n := range 33 {
		missing := int64(mostAmount >> n)
		holdEstimate(t, over(n, mostAmount, 0), mostAmount-missing, 0)
		holdBound(t, over(n, mostAmount, 0))
		if n < 32 {
			holdEstimate(t, join(over(n, mostAmount, 0), []int64{mostAmount}), 2*mostAmount-missing, 1)
		}
	}
	for n := range 6 {
		often := int64(1)<<n - 1 // all ones: odd at each of n halvings
		holdEstimate(t, join(many(int(often), mostAmount), many(n, 0)), mostAmount-mostAmount>>n, 0)
		holdBound(t, join(many(int(often), mostAmount), many(n, 0)))
	}
}

// TestBehindZeros: P12.2, behind 63, 64 and 65 zeros, and far more, both are 0, whatever lies ahead; what comes behind them stands alone.
func TestBehindZeros(t *testing.T) {
	ahead := [][]int64{nil, {1}, {mostAmount}, many(64, mostAmount), many(5000, mostAmount), noParts, amounts, rising(100, mostAmount-99)}
	for _, l := range ahead {
		for _, zeros := range []int{63, 64, 65, 66, 128, 5000} {
			holdEstimate(t, join(l, many(zeros, 0)), 0, 0)
			holdEstimate(t, join(l, many(zeros, 0), []int64{9}), 9, 1)
			holdEstimate(t, join(l, many(zeros, 0), []int64{9, 0}), 4, 0)
		}
	}
	// Zeros that are kept one by one do the same.
	for _, l := range ahead {
		for range 64 {
			l = want.Keep(l, 0)
		}
		holdEstimate(t, l, 0, 0)
		if !slices.Equal(l, many(64, 0)) {
			t.Errorf("P12.1: 64 zeros kept: %v", l)
		}
	}
	// The last zero that leaves something, and the first one that doesn't.
	holdEstimate(t, join([]int64{mostAmount}, many(40, 0)), 1, 0)
	holdEstimate(t, join([]int64{mostAmount}, many(41, 0)), 0, 0)
}

// roomy is the same list, with room behind it, none of it zero.
func roomy(l []int64, room int) []int64 {
	return join(l, many(room, -77))[:len(l)]
}

// scrawl writes over a list and its spare room.
func scrawl(l []int64) {
	all := l[:cap(l)]
	for i := range all {
		all[i] = -99
	}
}

// TestListStays: rules 3 and 4, the list that came in stays as it was, its spare room too, also behind what is done to the answers.
func TestListStays(t *testing.T) {
	for _, n := range lengths {
		for _, room := range []int{0, 1, 9, 100} {
			l := roomy(rising(n, 1), room)
			was := slices.Clone(l[:cap(l)])
			much, often := byWords(l)
			for range 3 {
				holdEstimate(t, l, much, often)
				holdKeep(t, l, 9, keptByWords(was[:n], 9))
				scrawl(want.Keep(l, 9))
				if !slices.Equal(l[:cap(l)], was) {
					t.Fatalf("rule 3: %d numbers, room for %d: what was handed in is %v now", n, room, l[:cap(l)])
				}
			}
		}
	}
}

// TestAnswerStays: rule 3, what is kept isn't changed by what is done to the list later, nor by what is kept beside it or behind it.
func TestAnswerStays(t *testing.T) {
	for _, n := range lengths {
		for _, room := range []int{0, 1, 9, 100} {
			l := roomy(rising(n, 1), room)
			one, two := want.Keep(l, 8), want.Keep(l, 9)
			behind, beside := want.Keep(one, 1), want.Keep(one, 2)
			scrawl(l)
			first := keptByWords(rising(n, 1), 8)
			if !slices.Equal(one, first) || !slices.Equal(two, keptByWords(rising(n, 1), 9)) {
				t.Errorf("rule 3: %d numbers, room for %d: kept are %v and %v now", n, room, one, two)
			}
			scrawl(one)
			if !slices.Equal(behind, keptByWords(first, 1)) || !slices.Equal(beside, keptByWords(first, 2)) {
				t.Errorf("rule 3: %d numbers, room for %d: kept behind are %v and %v now", n, room, behind, beside)
			}
		}
	}
}
