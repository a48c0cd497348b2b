package wait_test

import (
	"math"
	"math/big"
	"math/rand"
	"testing"

	"coffers/wait"
)

// longest is the greatest P that may be.
const longest = 16

// wrong are longest waits that may not be: 0, below it, one above all that may be, and as small and as great as can be.
var wrong = []int{
	math.MinInt, math.MinInt + 1, math.MinInt32, math.MinInt32 + 5, -1024, -17, -16, -5, -2, -1, 0,
	17, 18, 31, 32, 33, 64, 256 + 5, 1024, 1<<16 + 5, math.MaxInt32, 1<<32 + 5, math.MaxInt - 1, math.MaxInt,
}

// draws are numbers about which something might change: about 0, about half of 32 bits, and as great as can be.
var draws = []uint32{
	0, 1, 2, 3, 4, 5, 7, 8, 9, 15, 16, 17, 99, 255, 256, 1<<16 - 1, 1 << 16,
	1<<31 - 2, 1<<31 - 1, 1 << 31, 1<<31 + 1, 1<<32 - 16, 1<<32 - 3, 1<<32 - 2, 1<<32 - 1,
}

// tries are all about those that count, and as small and as great as can be.
func tries() []int {
	list := []int{math.MinInt, math.MinInt + 1, math.MinInt32, -1 << 40, -64, -63}
	for n := -16; n <= 80; n++ {
		list = append(list, n)
	}
	return append(list, 255, 256, 257, 1<<16, 1<<32, 1<<32+1, 1<<40, math.MaxInt32, math.MaxInt-1, math.MaxInt)
}

// boundByWords is the bound of a P that may be, as the document's words have it, by numbers that have no bounds.
func boundByWords(p, tries int) int {
	counted := big.NewInt(int64(tries))
	if counted.Sign() < 0 {
		counted.SetInt64(0)
	}
	if ten := big.NewInt(10); counted.Cmp(ten) > 0 {
		counted = ten
	}
	power := new(big.Int).Exp(big.NewInt(2), counted, nil)
	if most := big.NewInt(int64(p)); power.Cmp(most) > 0 {
		return p
	}
	return int(power.Int64())
}

// waitByWords is the wait of a bound, by numbers that have no bounds.
func waitByWords(bound int, draw uint32) int {
	_, left := new(big.Int).DivMod(new(big.Int).SetUint64(uint64(draw)), big.NewInt(int64(bound)), new(big.Int))
	return int(left.Int64()) + 1
}

// drawn are the draws above, those about a bound, and those about its greatest multiple.
func drawn(bound int) []uint32 {
	b := uint32(bound)
	last := math.MaxUint32 / b * b
	return append([]uint32{b - 1, b, b + 1, 2*b - 1, 2 * b, 2*b + 1, last - 1, last}, draws...)
}

// TestBoundExamples: P10.1, bounds of tries from 0 on, by numbers that are known: P just a power of 2, one less, and one more.
func TestBoundExamples(t *testing.T) {
	for _, x := range []struct {
		p    int
		want []int
	}{
		{1, []int{1, 1, 1, 1, 1, 1, 1, 1, 1, 1, 1, 1}},
		{2, []int{1, 2, 2, 2, 2, 2, 2, 2, 2, 2, 2, 2}},
		{3, []int{1, 2, 3, 3, 3, 3, 3, 3, 3, 3, 3, 3}},
		{4, []int{1, 2, 4, 4, 4, 4, 4, 4, 4, 4, 4, 4}},
		{5, []int{1, 2, 4, 5, 5, 5, 5, 5, 5, 5, 5, 5}},
		{7, []int{1, 2, 4, 7, 7, 7, 7, 7, 7, 7, 7, 7}},
		{8, []int{1, 2, 4, 8, 8, 8, 8, 8, 8, 8, 8, 8}},
		{9, []int{1, 2, 4, 8, 9, 9, 9, 9, 9, 9, 9, 9}},
		{15, []int{1, 2, 4, 8, 15, 15, 15, 15, 15, 15, 15, 15}},
		{16, []int{1, 2, 4, 8, 16, 16, 16, 16, 16, 16, 16, 16}},
		{17, []int{0, 0, 0, 0, 0, 0, 0, 0, 0, 0, 0, 0}},
		{0, []int{0, 0, 0, 0, 0, 0, 0, 0, 0, 0, 0, 0}},
	} {
		for n, want := range x.want {
			if got := wait.Bound(x.p, n); got != want {
				t.Errorf("P10.1: Bound(%d, %d): %d, want %d", x.p, n, got, want)
			}
		}
	}
}

// TestBoundByWords: P10.1, each P that may be, with all tries: those below 0, those that count, and above.
func TestBoundByWords(t *testing.T) {
	for p := 1; p <= longest; p++ {
		for _, n := range tries() {
			if got, want := wait.Bound(p, n), boundByWords(p, n); got != want {
				t.Errorf("P10.1: Bound(%d, %d): %d, want %d", p, n, got, want)
			}
		}
	}
}

// TestTriesThatCount: P10.1, tries below 0 count as 0, above 10 as 10, by both calls.
func TestTriesThatCount(t *testing.T) {
	for p := 1; p <= longest; p++ {
		for _, n := range tries() {
			counted := min(max(n, 0), 10)
			if got, want := wait.Bound(p, n), wait.Bound(p, counted); got != want {
				t.Errorf("P10.1: Bound(%d, %d): %d, but of %d tries %d", p, n, got, counted, want)
			}
			for _, d := range draws {
				if got, want := wait.Wait(p, n, d), wait.Wait(p, counted, d); got != want {
					t.Errorf("P10.1: Wait(%d, %d, %d): %d, but of %d tries %d", p, n, d, got, counted, want)
				}
			}
		}
	}
}

// TestWaitExamples: P10.1, waits that are known: a draw of 0, of the bound less one, the bound, one more, and as great as can be.
func TestWaitExamples(t *testing.T) {
	for _, x := range []struct {
		p, tries int
		draw     uint32
		want     int
	}{
		{5, 2, 0, 1},
		{5, 2, 3, 4},
		{5, 2, 4, 1},
		{5, 2, 5, 2},
		{5, 2, 7, 4},
		{5, 2, 1<<32 - 1, 4},
		{5, 3, 0, 1},
		{5, 3, 4, 5},
		{5, 3, 5, 1},
		{5, 3, 6, 2},
		{5, 3, 1<<31 - 1, 3},
		{5, 3, 1 << 31, 4},
		{5, 3, 1<<32 - 1, 1},
		{5, 0, 99, 1},
		{5, -1, 1<<32 - 1, 1},
		{1, 9, 1<<32 - 1, 1},
		{3, 2, 1<<32 - 2, 3},
		{7, 10, 1<<32 - 1, 4},
		{16, 4, 15, 16},
		{16, 4, 16, 1},
		{16, 4, 17, 2},
		{16, 10, 1<<32 - 1, 16},
		{16, 3, 1<<32 - 1, 8},
	} {
		if got := wait.Wait(x.p, x.tries, x.draw); got != x.want {
			t.Errorf("P10.1: Wait(%d, %d, %d): %d, want %d", x.p, x.tries, x.draw, got, x.want)
		}
	}
}

// TestWaitByWords: P10.1, each P that may be, all tries, draws about the bound, about its multiples, and others.
func TestWaitByWords(t *testing.T) {
	for p := 1; p <= longest; p++ {
		for _, n := range tries() {
			bound := boundByWords(p, n)
			for _, d := range drawn(bound) {
				if got, want := wait.Wait(p, n, d), waitByWords(bound, d); got != want {
					t.Errorf("P10.1: Wait(%d, %d, %d): %d, want %d", p, n, d, got, want)
				}
			}
		}
	}
}

// TestWaitDrawn: P10.1 and P10.2, any draws: what the words come to, and from 1 to P.
func TestWaitDrawn(t *testing.T) {
	draw := rand.New(rand.NewSource(1))
	for range 20000 {
		p, n, d := 1+draw.Intn(longest), draw.Intn(14)-2, draw.Uint32()
		got := wait.Wait(p, n, d)
		if want := waitByWords(boundByWords(p, n), d); got != want {
			t.Errorf("P10.1: Wait(%d, %d, %d): %d, want %d", p, n, d, got, want)
		}
		if got < 1 || got > p {
			t.Errorf("P10.2: Wait(%d, %d, %d): %d", p, n, d, got)
		}
	}
}

// TestWrong: P10.1, a P that may not be tells 0, by both calls, whatever else is handed in.
func TestWrong(t *testing.T) {
	for _, p := range wrong {
		for _, n := range tries() {
			if got := wait.Bound(p, n); got != 0 {
				t.Errorf("P10.1: Bound(%d, %d): %d", p, n, got)
			}
			for _, d := range draws {
				if got := wait.Wait(p, n, d); got != 0 {
					t.Errorf("P10.1: Wait(%d, %d, %d): %d", p, n, d, got)
				}
			}
		}
	}
}

// TestEachDrawn: P10.1 and P10.2, as many draws in a row as the bound says tell each wait from 1 to the bound just once, wherever they begin.
func TestEachDrawn(t *testing.T) {
	for p := 1; p <= longest; p++ {
		for n := -1; n <= 11; n++ {
			bound := boundByWords(p, n)
			for _, first := range []uint32{0, 1, uint32(bound), 1<<31 - 3, -uint32(bound)} {
				seen := map[int]bool{}
				for i := range bound {
					got := wait.Wait(p, n, first+uint32(i))
					if got < 1 || got > bound || seen[got] {
						t.Errorf("P10.2: Wait(%d, %d, %d): %d, of a bound of %d (told ahead: %t)", p, n, first+uint32(i), got, bound, seen[got])
					}
					seen[got] = true
				}
				if len(seen) != bound {
					t.Errorf("P10.1: P %d, %d tries: %d waits drawn, want %d", p, n, len(seen), bound)
				}
			}
		}
	}
}

// TestWithin: P10.2, a bound is from 1 to P, and a wait from 1 to its bound.
func TestWithin(t *testing.T) {
	for p := 1; p <= longest; p++ {
		for _, n := range tries() {
			bound := wait.Bound(p, n)
			if bound < 1 || bound > p {
				t.Fatalf("P10.2: Bound(%d, %d): %d", p, n, bound)
			}
			for _, d := range drawn(bound) {
				if got := wait.Wait(p, n, d); got < 1 || got > bound {
					t.Errorf("P10.2: Wait(%d, %d, %d): %d, of a bound of %d", p, n, d, got, bound)
				}
			}
		}
	}
}

// TestMoreTries: P10.2, a try more makes a greater bound, till it is P; then it stays P.
func TestMoreTries(t *testing.T) {
	for p := 1; p <= longest; p++ {
		list := tries()
		for i, n := range list[1:] {
			fewer, more := wait.Bound(p, list[i]), wait.Bound(p, n)
			grows := n > 0 && fewer < p
			if more < fewer || grows != (more > fewer) {
				t.Errorf("P10.2: P %d: %d tries have the bound %d, %d have %d", p, list[i], fewer, n, more)
			}
		}
		if got := wait.Bound(p, math.MaxInt); got != p {
			t.Errorf("P10.2: P %d: the bound of the most tries is %d", p, got)
		}
	}
}

// TestCalledAnew: rule 4, what a call answers hangs on its arguments alone.
func TestCalledAnew(t *testing.T) {
	for range 3 {
		if got := wait.Bound(5, 3); got != 5 {
			t.Errorf("P10.1: Bound, called anew: %d", got)
		}
		if got := wait.Wait(5, 3, 7); got != 3 {
			t.Errorf("P10.1: Wait, called anew: %d", got)
		}
		if got := wait.Wait(0, 3, 7) + wait.Bound(17, 3); got != 0 {
			t.Errorf("P10.1: a P that may not be, called anew: %d", got)
		}
	}
}
