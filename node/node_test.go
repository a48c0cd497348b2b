package node_test

import (
	"math"
	"slices"
	"testing"

	"coffers/api"
	"coffers/node"
	"coffers/rights"
)

// TestExample: alone, K 5: Dec 3 tells OK, and has an Out OK; Dec 3 again waits; the Tick that writes tells Lacking: the one that asks as often as may be.
func TestExample(t *testing.T) {
	for r := range 4 {
		c := api.Config{N: 1, Q: 1, R: r, P: 1, K: 5, C: 4}
		n, code := node.New(c, 0)
		if code != api.OK {
			t.Fatalf("P18.1: New: %d", code)
		}
		want := api.Node{Book: api.Book{Clock: 1, Rows: []api.Row{of(0, 3, 0)}, Outs: []api.Outcome{end(1, 0, api.OK)}, Notes: []api.Note{{}}}, Wake: api.Wake{Asked: []int64{3}}}
		holdDec(t, c, 0, n, 3, want, api.Stamp{Time: 1}, api.OK)
		n = want
		want = with(n, func(n *api.Node) {
			n.Book.Clock, n.Book.Outs, n.Book.Line, n.Wake.Asked = 2, nil, []api.Request{ask(2, 0, 3)}, []int64{3, 3}
		})
		holdDec(t, c, 0, n, 3, want, api.Stamp{Time: 2}, api.OK)
		for asks := 1; asks < r; asks++ {
			n, want = want, with(want, func(n *api.Node) {
				n.Book.Asks, n.Wake.Ticks, n.Wake.Next, n.Wake.Asked = asks, int64(asks), int64(asks+1), append(n.Wake.Asked, 0)
			})
			holdTick(t, c, 0, n, 9, want, nil, api.OK)
		}
		n = want
		want = with(n, func(n *api.Node) {
			n.Book.Clock, n.Book.Outs, n.Book.Line, n.Book.Asks = 3, []api.Outcome{end(2, 0, api.Lacking)}, nil, 0
			n.Wake.Ticks, n.Wake.Next, n.Wake.Asked = n.Wake.Ticks+1, n.Wake.Ticks+2, append(n.Wake.Asked, 0)
		})
		holdTick(t, c, 0, n, 9, want, nil, api.OK)
	}
}

// holdNew: New(c, who) answers this.
func holdNew(t *testing.T, c api.Config, who int, want api.Node, code api.Code) {
	t.Helper()
	if got, e := node.New(c, who); !same(got, want) || e != code {
		t.Errorf("P18.1: New(%+v, %d): %+v, %d, want %+v, %d", c, who, got, e, want, code)
	}
}

// TestNew: P18.1, a node that knows nothing, of each replica, for each N that may be; none of one that there isn't, nor by a config that may not be.
func TestNew(t *testing.T) {
	for n := 1; n <= 16; n++ {
		c := config(n)
		for who := range n {
			want := api.Node{Book: api.Book{Rows: rights.New(c), Notes: make([]api.Note, n)}}
			holdNew(t, c, who, want, api.OK)
			holdMay(t, c, who, want, true)
			if got := node.Read(c, who, want); got != c.K {
				t.Errorf("P18.1: Read, of a new one: %d, want %d", got, c.K)
			}
		}
		for _, who := range farWhos(n) {
			holdNew(t, c, who, api.Node{}, api.Arg)
		}
	}
	for _, c := range wrongConfigs() {
		for _, who := range []int{-1, 0, 1, 2, math.MinInt, math.MaxInt} {
			holdNew(t, c, who, api.Node{}, api.Arg)
		}
	}
}

// TestBack: P18.1, a node with a book, whatever it is, and nothing beside.
func TestBack(t *testing.T) {
	c := config(3)
	for _, k := range []api.Book{{}, fresh(c, 1).Book, handed(c).Book, {Clock: -1, Asks: -1, Outs: []api.Outcome{{}}, Rows: []api.Row{{}}}} {
		if n := node.Back(k); !same(n, api.Node{Book: k}) {
			t.Errorf("P18.1: Back(%+v): %+v", k, n)
		}
	}
}

// TestRead: P18.1, what there is by the rows, whoever's node it is.
func TestRead(t *testing.T) {
	c := config(2)
	for who := range 2 {
		n := with(fresh(c, who), func(n *api.Node) { n.Book.Rows = []api.Row{of(5, 30, 0, 40), of(0, 7, 0, 0)} })
		if got := node.Read(c, who, n); got != 168 {
			t.Errorf("P18.1: Read(%+v, %d, %+v): %d, want 168", c, who, n, got)
		}
		holdMay(t, c, who, n, true)
		holdMay(t, c, who, with(n, func(n *api.Node) { n.Wake.Ticks = -1 }), false)
	}
}

// TestWhos: P18.1, who below 0, 0, N - 1, N, and others, for each N that may be; what is one's isn't another one's; configs that may not be.
func TestWhos(t *testing.T) {
	for n := 1; n <= 16; n++ {
		c := config(n)
		for who := range n {
			for as := range n {
				holdMay(t, c, as, waiting(c, who, 500), as == who)
			}
		}
		for _, who := range farWhos(n) {
			holdMay(t, c, who, fresh(c, 0), false)
			holdMay(t, c, who, waiting(c, n-1, 500), false)
			holdMay(t, c, who, api.Node{}, false)
		}
	}
	for _, c := range wrongConfigs() {
		for _, who := range []int{-1, 0, 1, 2} {
			holdMay(t, c, who, fresh(config(2), 1), false)
			holdMay(t, c, who, api.Node{}, false)
		}
	}
}

// TestMayTicks: P18.1, Ticks below 0, 0, MaxTime, one above it; Next below 0, 0, Ticks and MaxP together, one above that.
func TestMayTicks(t *testing.T) {
	for _, n := range []int{1, 2, 16} {
		c := config(n)
		try := func(ticks, next int64, may bool) {
			t.Helper()
			holdMay(t, c, n-1, with(fresh(c, n-1), func(n *api.Node) { n.Wake.Ticks, n.Wake.Next = ticks, next }), may)
		}
		for _, ticks := range []int64{0, 1, 15, 16, 17, 1000, mostTime - 1, mostTime} {
			for _, next := range []int64{0, 1, 16, ticks, ticks + 1, ticks + 15, ticks + 16} {
				try(ticks, next, next <= ticks+16)
			}
			for _, next := range []int64{-1, -2, -16, -17, math.MinInt64, math.MinInt64 + 16, ticks + 17, ticks + 18, ticks + 32, 1 << 62, math.MaxInt64 - 16, math.MaxInt64} {
				try(ticks, next, false)
			}
		}
		for _, ticks := range []int64{-1, -2, -16, -17, mostTime + 1, mostTime + 2, 2 * mostTime, 1 << 62, math.MinInt64, math.MaxInt64 - 16, math.MaxInt64 - 15, math.MaxInt64} {
			for _, next := range []int64{0, 1, 16, -1, ticks, mostTime} {
				try(ticks, next, false)
			}
		}
	}
}

// TestMayAsked: P18.1, Asked with none, 64 and 65 numbers, and others, whatever these are.
func TestMayAsked(t *testing.T) {
	c := config(2)
	for size := range 200 {
		for _, v := range []int64{0, 1, 50, -1, mostAmount + 1, math.MinInt64, math.MaxInt64} {
			n := with(fresh(c, 1), func(n *api.Node) { n.Wake.Asked = slices.Repeat([]int64{v}, size) })
			holdMay(t, c, 1, n, size <= 64)
		}
	}
}

// wrongBooks are changes of a book of who, among 2 or more, behind each of which it may not be.
func wrongBooks(c api.Config, who int) []func(k *api.Book) {
	other := (who + 1) % c.N
	return []func(k *api.Book){
		func(k *api.Book) { *k = api.Book{} },
		func(k *api.Book) { k.Clock = -1 },
		func(k *api.Book) { k.Clock = mostTime + 1 },
		func(k *api.Book) { k.Rows = nil },
		func(k *api.Book) { k.Rows[who].Use = 101 },
		func(k *api.Book) { k.Rows[other].Inc = 61 },
		func(k *api.Book) { k.Rows[other].Out = nil },
		func(k *api.Book) { k.Rows[who].Out[who] = 1 },
		func(k *api.Book) { k.Line = []api.Request{ask(now+1, who, 5)} },
		func(k *api.Book) { k.Line = []api.Request{ask(9, who, 0)} },
		func(k *api.Book) { k.Line = []api.Request{ask(9, who, 5), ask(9, who, 5)} },
		func(k *api.Book) { k.Line = waiting(c, who, 1, 2, 3, 4).Book.Line },
		func(k *api.Book) { k.Outs[0].Code = api.Busy },
		func(k *api.Book) { k.Outs = slices.Repeat(k.Outs, 5) },
		func(k *api.Book) { k.Asks = 1 },
		func(k *api.Book) { k.Line, k.Asks = []api.Request{ask(9, who, 5)}, 3 },
		func(k *api.Book) { k.Notes = k.Notes[1:] },
		func(k *api.Book) { k.Notes[who].Clock = 1 },
		func(k *api.Book) { k.Notes[other].Asks = 3 },
		func(k *api.Book) { k.Audit = run(k.Rows, 1) },
		func(k *api.Book) { k.Line, k.Audit = []api.Request{ask(9, who, 5)}, run(k.Rows, 3) },
		func(k *api.Book) { k.Line, k.Audit = []api.Request{ask(9, who, 5)}, run(k.Rows, 1, who) },
	}
}

// TestMayBook: P18.1, a book that may not be.
func TestMayBook(t *testing.T) {
	for _, n := range []int{2, 3, 16} {
		c := config(n)
		for who := range n {
			holdMay(t, c, who, fresh(c, who), true)
			for _, spoil := range wrongBooks(c, who) {
				holdMay(t, c, who, with(fresh(c, who), func(n *api.Node) { spoil(&n.Book) }), false)
			}
		}
	}
}

// notAmounts are such as may not be.
var notAmounts = []int64{0, -1, -2, -50, -mostAmount, mostAmount + 1, mostAmount + 2, 2 * mostAmount, mostTime, 1 << 62, math.MinInt64, math.MinInt64 + 1, math.MaxInt64}

// TestInc: P18.2, amounts below 0, 0, 1, MaxAmount, one above it, and others; so much that layer 5's Put refuses it. Nothing beside is another one, but that there are no Outs.
func TestInc(t *testing.T) {
	for _, n := range []int{1, 2, 3, 16} {
		c := config(n)
		for _, who := range []int{0, n - 1} {
			k := with(fresh(c, who), func(n *api.Node) { n.Wake = api.Wake{Ticks: 7, Next: 9, Asked: []int64{4, 0}} })
			put := func(k api.Node, amount, inc int64) {
				holdInc(t, c, who, k, amount, with(k, func(n *api.Node) { n.Book.Rows[who].Inc, n.Book.Outs = inc, nil }), api.OK)
			}
			for _, amount := range []int64{1, 2, 59, 60} {
				put(k, amount, amount)
			}
			more := with(k, func(n *api.Node) { n.Book.Rows[who].Inc = 59 })
			put(more, 1, 60)
			for _, amount := range []int64{2, 60, mostAmount} {
				holdInc(t, c, who, more, amount, more, api.Full)
			}
			for _, amount := range []int64{61, 62, mostAmount - 1, mostAmount} {
				holdInc(t, c, who, k, amount, k, api.Full)
			}
			for _, amount := range notAmounts {
				holdInc(t, c, who, k, amount, k, api.Invalid)
			}
		}
	}
	most := api.Config{N: 1, Q: 1, P: 1, C: mostAmount}
	k := fresh(most, 0)
	want := with(k, func(n *api.Node) { n.Book.Rows[0].Inc, n.Book.Outs = mostAmount, nil })
	holdInc(t, most, 0, k, mostAmount, want, api.OK)
	holdInc(t, most, 0, k, mostAmount+1, k, api.Invalid)
	holdInc(t, most, 0, want, 1, want, api.Full)
}

// TestIncSettles: P18.2, what is put in is had by whoever waits, as far as it goes; a Clock at its end doesn't matter.
func TestIncSettles(t *testing.T) {
	c := config(2)
	for _, clock := range []int64{now, mostTime} {
		n := with(waiting(c, 0, 130, 20), func(n *api.Node) { n.Book.Clock, n.Book.Asks = clock, 1 })
		put := func(amount int64, change func(k *api.Book)) {
			holdInc(t, c, 0, n, amount, with(n, func(n *api.Node) {
				n.Book.Rows[0].Inc, n.Book.Outs = amount, nil
				change(&n.Book)
			}), api.OK)
		}
		one := func(k *api.Book) {
			k.Rows[0].Use, k.Outs, k.Line, k.Asks = 130, []api.Outcome{end(11, 0, api.OK)}, k.Line[1:], 0
		}
		put(29, nothing)
		put(30, one)
		put(49, one)
		put(50, func(k *api.Book) {
			k.Rows[0].Use, k.Outs, k.Line, k.Asks = 150, []api.Outcome{end(11, 0, api.OK), end(12, 0, api.OK)}, nil, 0
		})
	}
	// Where someone calls, it goes on to that one.
	n := with(fresh(c, 0), func(n *api.Node) { n.Book.Notes[1] = claims(c, 1, 9, 300) })
	holdInc(t, c, 0, n, 60, with(n, func(n *api.Node) { n.Book.Rows[0].Inc, n.Book.Rows[0].Out[1], n.Book.Outs = 60, 160, nil }), api.OK)
}

// TestDec: P18.2, amounts below 0, 0, 1, MaxAmount, one above it, and others, with rights for it and without.
func TestDec(t *testing.T) {
	for _, n := range []int{1, 2, 3, 16} {
		c := config(n)
		for _, who := range []int{0, n - 1} {
			k := with(fresh(c, who), func(n *api.Node) { n.Wake = api.Wake{Ticks: 7, Next: 9, Asked: []int64{4, 0}} })
			id := api.Stamp{Time: now + 1, Who: who}
			for _, amount := range []int64{1, 2, 99, 100} {
				holdDec(t, c, who, k, amount, with(k, func(n *api.Node) {
					n.Book.Clock, n.Book.Rows[who].Use, n.Book.Outs = now+1, amount, []api.Outcome{{Id: id}}
					n.Wake.Asked = []int64{4, 0, amount}
				}), id, api.OK)
			}
			for _, amount := range []int64{101, 102, 60000, mostAmount - 1, mostAmount} {
				holdDec(t, c, who, k, amount, with(k, func(n *api.Node) {
					n.Book.Clock, n.Book.Line, n.Book.Outs = now+1, []api.Request{{Id: id, Amount: amount}}, nil
					n.Wake.Asked = []int64{4, 0, amount}
				}), id, api.OK)
			}
			for _, amount := range notAmounts {
				holdDec(t, c, who, k, amount, k, api.Stamp{}, api.Invalid)
			}
		}
	}
	most := api.Config{N: 1, Q: 1, P: 1, K: mostAmount}
	k := fresh(most, 0)
	id := api.Stamp{Time: now + 1}
	holdDec(t, most, 0, k, mostAmount, with(k, func(n *api.Node) {
		n.Book.Clock, n.Book.Rows[0].Use, n.Book.Outs, n.Wake.Asked = now+1, mostAmount, []api.Outcome{{Id: id}}, []int64{mostAmount}
	}), id, api.OK)
}

// TestDecLine: P18.2, a line of none to Q; Invalid comes ahead of Busy, and that ahead of Range. A request waits behind all others, also if its rights cover it; what is asked for, and looked for, goes on.
func TestDecLine(t *testing.T) {
	for q := 1; q <= 8; q++ {
		c := config(2)
		c.Q = q
		for have := 1; have <= q; have++ {
			n := waiting(c, 1, slices.Repeat([]int64{101}, have)...)
			n.Book.Asks, n.Book.Audit = 2, run(n.Book.Rows, 1)
			if have < q {
				holdDec(t, c, 1, n, 7, with(n, func(n *api.Node) {
					n.Book.Clock, n.Book.Line, n.Book.Outs, n.Wake.Asked = now+1, append(n.Book.Line, ask(now+1, 1, 7)), nil, []int64{7}
				}), api.Stamp{Time: now + 1, Who: 1}, api.OK)
			}
			for _, clock := range []int64{now, mostTime - 1, mostTime} {
				n.Book.Clock = clock
				for _, amount := range notAmounts {
					holdDec(t, c, 1, n, amount, n, api.Stamp{}, api.Invalid)
				}
				for _, amount := range []int64{1, 101, mostAmount} {
					if have == q {
						holdDec(t, c, 1, n, amount, n, api.Stamp{}, api.Busy)
					} else if clock == mostTime {
						holdDec(t, c, 1, n, amount, n, api.Stamp{}, api.Range)
					}
				}
			}
		}
	}
}

// TestDecClock: P18.2, a Clock of MaxTime, one below it, 0, and others.
func TestDecClock(t *testing.T) {
	c := config(3)
	for _, clock := range []int64{0, 1, 1000, mostTime - 2, mostTime - 1} {
		n := with(fresh(c, 2), func(n *api.Node) { n.Book.Clock, n.Book.Outs = clock, nil })
		id := api.Stamp{Time: clock + 1, Who: 2}
		holdDec(t, c, 2, n, 8, with(n, func(n *api.Node) {
			n.Book.Clock, n.Book.Rows[2].Use, n.Book.Outs, n.Wake.Asked = clock+1, 8, []api.Outcome{{Id: id}}, []int64{8}
		}), id, api.OK)
	}
	n := with(fresh(c, 2), func(n *api.Node) { n.Book.Clock = mostTime })
	holdDec(t, c, 2, n, 8, n, api.Stamp{}, api.Range)
	holdDec(t, c, 2, n, 800, n, api.Stamp{}, api.Range)
}

// TestDecAsked: P18.2, the amount is kept in Asked, of which 64 are left.
func TestDecAsked(t *testing.T) {
	c := config(2)
	for size := range 65 {
		n := fresh(c, 0)
		for i := range size {
			n.Wake.Asked = append(n.Wake.Asked, int64(i+1))
		}
		id := api.Stamp{Time: now + 1}
		holdDec(t, c, 0, n, 99, with(n, func(n *api.Node) {
			n.Book.Clock, n.Book.Rows[0].Use, n.Book.Outs = now+1, 99, []api.Outcome{{Id: id}}
			n.Wake.Asked = append(n.Wake.Asked, 99)
			if size == 64 {
				n.Wake.Asked = n.Wake.Asked[1:]
			}
		}), id, api.OK)
	}
}

// TestDecHeld: P18.2, where a claim is known that is older than the time of the request, it waits, whatever the rights are, and they go there; where it isn't older it is answered ahead of that.
func TestDecHeld(t *testing.T) {
	c := config(3)
	for _, x := range []struct {
		of   int
		time int64
		held bool
	}{{0, 1, true}, {2, 1, true}, {0, now, true}, {2, now, true}, {0, now + 1, true}, {2, now + 1, false}, {0, now + 2, false}, {2, now + 2, false}, {0, mostTime, false}} {
		n := with(fresh(c, 1), func(n *api.Node) { n.Book.Notes[x.of] = claims(c, x.of, x.time, 300) })
		id := api.Stamp{Time: now + 1, Who: 1}
		holdDec(t, c, 1, n, 30, with(n, func(n *api.Node) {
			n.Book.Clock, n.Book.Outs, n.Wake.Asked = now+1, nil, []int64{30}
			if x.held {
				n.Book.Rows[1].Out[x.of], n.Book.Line = 100, []api.Request{{Id: id, Amount: 30}}
			} else {
				n.Book.Rows[1].Out[x.of], n.Book.Rows[1].Use, n.Book.Outs = 70, 30, []api.Outcome{{Id: id}}
			}
		}), id, api.OK)
	}
}

// served are a book's requests that its rights cover: so many of its line left, and used so much.
func served(who, many int, use int64) func(k *api.Book) {
	return func(k *api.Book) {
		k.Outs = nil
		for _, r := range k.Line[:many] {
			k.Outs = append(k.Outs, api.Outcome{Id: r.Id})
		}
		k.Line, k.Rows[who].Use, k.Asks, k.Audit = k.Line[many:], use, 0, api.Audit{}
	}
}

// TestServes: settled, 1. Nobody, one, some wait, whose amounts the rights cover, and don't; several leave at once, in their order; behind one that is left none leaves.
func TestServes(t *testing.T) {
	for _, x := range []struct {
		amounts []int64
		leave   int
		use     int64
	}{
		{nil, 0, 0},
		{[]int64{1}, 1, 1}, {[]int64{99}, 1, 99}, {[]int64{100}, 1, 100}, {[]int64{101}, 0, 0}, {[]int64{mostAmount}, 0, 0},
		{[]int64{40, 60}, 2, 100}, {[]int64{40, 61}, 1, 40}, {[]int64{101, 1}, 0, 0}, {[]int64{100, 1}, 1, 100},
		{[]int64{40, 50, 10}, 3, 100}, {[]int64{40, 50, 11}, 2, 90}, {[]int64{40, 61, 1}, 1, 40}, {[]int64{101, 1, 1}, 0, 0}, {[]int64{1, 1, 1}, 3, 3},
	} {
		for _, n := range []int{2, 3, 16} {
			c := config(n)
			for _, who := range []int{0, n - 1} {
				k := waiting(c, who, x.amounts...)
				holdSettled(t, c, who, k, func(k *api.Book) {
					if x.leave > 0 {
						served(who, x.leave, x.use)(k)
					}
				})
				if len(x.amounts) == 0 {
					continue
				}
				// What was asked for, and looked for, was about the head that leaves.
				k.Book.Asks, k.Book.Audit = 2, run(k.Book.Rows, 1)
				holdSettled(t, c, who, k, func(k *api.Book) {
					if x.leave > 0 {
						served(who, x.leave, x.use)(k)
					}
				})
			}
		}
	}
}

// TestAlone: settled, of one replica alone, for whom no message comes: behind Inc.
func TestAlone(t *testing.T) {
	c := config(1)
	for _, x := range []struct {
		amount int64
		audit  int
		change func(k *api.Book)
	}{
		{101, 0, served(0, 1, 101)},
		{102, 0, nothing},
		{101, 1, served(0, 1, 101)},
		{101, 2, served(0, 1, 101)},
		{102, 1, refused},
		{102, 2, refused},
	} {
		n := waiting(c, 0, x.amount)
		if x.audit > 0 {
			n.Book.Asks, n.Book.Audit = 2, run(n.Book.Rows, x.audit)
		}
		holdInc(t, c, 0, n, 1, with(n, func(n *api.Node) {
			n.Book.Rows[0].Inc, n.Book.Outs = 1, nil
			x.change(&n.Book)
		}), api.OK)
		holdWords(t, c, 0, n, []int64{1, 2, 60, 61, 100}, []uint32{0, 3})
	}
}

// TestHeld: settled, 1. A head that is held by another's claim, and one that holds others: of a time more, the same, or less.
func TestHeld(t *testing.T) {
	c := config(3)
	for _, x := range []struct {
		of    int
		time  int64
		leave int
	}{{0, 1, 0}, {2, 1, 0}, {0, 10, 0}, {2, 10, 0}, {0, 11, 0}, {2, 11, 1}, {0, 12, 1}, {2, 12, 2}, {0, 13, 2}, {2, 13, 2}} {
		for asks := range 3 {
			n := waiting(c, 1, 10, 20)
			n.Book.Notes[x.of] = claims(c, x.of, x.time, 300)
			n.Book.Notes[x.of].Asks = asks
			if asks < 2 {
				// It isn't a claim yet.
				holdSettled(t, c, 1, n, served(1, 2, 30))
				continue
			}
			use := []int64{0, 10, 30}[x.leave]
			holdSettled(t, c, 1, n, func(k *api.Book) {
				served(1, x.leave, use)(k)
				k.Rows[1].Out[x.of] = 100 - use
			})
		}
	}
	// An older one that is no claim doesn't hold; the claim behind it does.
	n := waiting(c, 1, 10)
	n.Book.Notes[0], n.Book.Notes[2] = api.Note{Clock: heard, Head: ask(2, 0, 300), Asks: 1}, claims(c, 2, 5, 300)
	holdSettled(t, c, 1, n, func(k *api.Book) { k.Rows[1].Out[2] = 100 })
}

// refused is a book whose head is told Lacking.
func refused(k *api.Book) {
	k.Outs = []api.Outcome{{Id: k.Line[0].Id, Code: api.Lacking}}
	k.Line, k.Asks, k.Audit = k.Line[1:], 0, api.Audit{}
}

// ended is a book whose audit came to nothing.
func ended(k *api.Book) { k.Audit = api.Audit{} }

// TestAuditGoesOn: settled, 2. An audit by which all told in the first phase goes on; in the second one, by which not all told, and in the first one, it stays.
func TestAuditGoesOn(t *testing.T) {
	for _, n := range []int{2, 3, 16} {
		c := config(n)
		for _, who := range []int{0, n - 1} {
			k := waiting(c, who, 9000)
			for of := range k.Book.Rows {
				k.Book.Rows[of].Use = int64(20 + of)
			}
			k.Book.Asks, k.Book.Audit = 2, run(k.Book.Rows, 1, others(c, who)...)
			// What it used itself isn't told by others; what it put in neither, nor of any use in this phase.
			k.Book.Audit.Use[who], k.Book.Audit.Inc[who], k.Book.Audit.Moved = 9, 8, true
			holdSettled(t, c, who, k, func(k *api.Book) {
				k.Audit.Look.Phase, k.Audit.Told, k.Audit.Use[who] = 2, make([]bool, n), int64(20+who)
			})
			for phase := 1; phase <= 2; phase++ {
				for _, less := range others(c, who) {
					k.Book.Audit = run(k.Book.Rows, phase, others(c, who)...)
					k.Book.Audit.Told[less] = false
					holdSettled(t, c, who, k, nothing)
				}
			}
		}
	}
}

// TestAuditEnds: settled, 2. An audit that ends and is sure, and one that isn't, each with most less than, equal to, and above the head's amount. The head is held, or its rights don't cover it.
func TestAuditEnds(t *testing.T) {
	for _, n := range []int{2, 3, 16} {
		c := config(n)
		who := n - 1
		most := int64(100*n - 20*n + 3*n)
		for _, amount := range []int64{most - 1, most, most + 1, mostAmount} {
			for _, held := range []bool{false, true} {
				k := waiting(c, who, amount)
				for of := range k.Book.Rows {
					k.Book.Rows[of].Use, k.Book.Rows[of].Inc = 20, 3
				}
				k.Book.Asks, k.Book.Audit = 2, run(k.Book.Rows, 2, others(c, who)...)
				change := ended
				if amount > most {
					change = refused
				}
				yield := func(k *api.Book) {}
				if held {
					k.Book.Notes[0] = claims(c, 0, 2, 500)
					yield = func(k *api.Book) { k.Rows[who].Out[0] = 83 }
				}
				holdSettled(t, c, who, k, func(k *api.Book) { change(k); yield(k) })
				// It moved, or who looks used something: then it isn't sure, whatever most would be.
				moved := with(k, func(n *api.Node) { n.Book.Audit.Moved = true })
				holdSettled(t, c, who, moved, func(k *api.Book) { ended(k); yield(k) })
				used := with(k, func(n *api.Node) { n.Book.Audit.Use[who] = 19 })
				holdSettled(t, c, who, used, func(k *api.Book) { ended(k); yield(k) })
			}
		}
	}
}

// TestBeginsAnew: settled, 2. Where the head is told Lacking, whoever is the head then leaves, too, if its rights cover it and it isn't held.
func TestBeginsAnew(t *testing.T) {
	c := config(3)
	for _, x := range []struct {
		of   int
		time int64 // of a claim; none, if it is 0
		line []int64
		outs []api.Code
		use  int64
	}{
		{0, 0, []int64{301, 100}, []api.Code{api.Lacking, api.OK}, 100},
		{0, 0, []int64{301, 30, 70}, []api.Code{api.Lacking, api.OK, api.OK}, 100},
		{0, 0, []int64{301, 101, 1}, []api.Code{api.Lacking}, 0},
		{0, 0, []int64{301, 301, 1}, []api.Code{api.Lacking}, 0},
		{0, 0, []int64{300, 1}, nil, 0},
		{0, 0, []int64{100, 301}, []api.Code{api.OK}, 100}, // what was looked for was the first one
		{0, 10, []int64{301, 30, 40}, []api.Code{api.Lacking}, 0},
		{2, 11, []int64{301, 30, 40}, []api.Code{api.Lacking}, 0},
		{0, 12, []int64{301, 30, 40}, []api.Code{api.Lacking}, 0},
		{2, 12, []int64{301, 30, 40}, []api.Code{api.Lacking, api.OK}, 30},
		{0, 13, []int64{301, 30, 40}, []api.Code{api.Lacking, api.OK}, 30},
		{2, 13, []int64{301, 30, 40}, []api.Code{api.Lacking, api.OK, api.OK}, 70},
	} {
		n := waiting(c, 1, x.line...)
		n.Book.Asks, n.Book.Audit = 2, run(n.Book.Rows, 2, 0, 2)
		if x.time > 0 {
			n.Book.Notes[x.of] = claims(c, x.of, x.time, 200)
		}
		holdSettled(t, c, 1, n, func(k *api.Book) {
			for i, code := range x.outs {
				k.Outs = append(k.Outs, end(11+int64(i), 1, code))
			}
			k.Line, k.Rows[1].Use, k.Audit = k.Line[len(x.outs):], x.use, api.Audit{}
			if len(x.outs) > 0 {
				k.Asks = 0
			}
			if x.time > 0 {
				k.Rows[1].Out[x.of] = 100 - x.use
			}
		})
	}
}

// TestYields: settled, 3. Someone calls, with rights left and without, with as much moved there as may be, and with room for less than is left.
func TestYields(t *testing.T) {
	for _, n := range []int{2, 3, 16} {
		c := config(n)
		for _, who := range []int{0, 1, n - 1} {
			for _, to := range []int{others(c, who)[0], others(c, who)[n-2]} {
				for _, use := range []int64{0, 1, 99, 100} {
					for _, room := range []int64{mostMove, 101, 100, 99, 98, 2, 1, 0} {
						k := with(fresh(c, who), func(n *api.Node) {
							n.Book.Rows[who].Use, n.Book.Notes[to] = use, claims(c, to, 99, 5)
							// As much came back from there.
							n.Book.Rows[who].Out[to], n.Book.Rows[to].Out[who] = mostMove-room, mostMove-room
						})
						holdSettled(t, c, who, k, func(k *api.Book) { k.Rows[who].Out[to] += min(room, 100-use) })
						if n == 2 {
							continue
						}
						// Or by a third one.
						k.Book.Rows[to].Out[who] = 0
						for third := range n {
							if third != who && third != to {
								k.Book.Rows[to].Out[third], k.Book.Rows[third].Out[who] = mostMove-room, mostMove-room
								break
							}
						}
						holdSettled(t, c, who, k, func(k *api.Book) { k.Rows[who].Out[to] += min(room, 100-use) })
					}
				}
			}
		}
	}
}

// TestYieldsTo: settled, 3. Rights go to the oldest claim, if nobody waits here, or the head isn't older.
func TestYieldsTo(t *testing.T) {
	c := config(4)
	times := []int64{4, 5, 6}
	for _, own := range []int64{0, 4, 5, 6} {
		for _, a := range times {
			for _, b := range times {
				for _, asks := range []int{1, 2} {
					n := fresh(c, 1)
					if own > 0 {
						n.Book.Line = []api.Request{ask(own, 1, 101)}
					}
					n.Book.Notes[0], n.Book.Notes[3] = claims(c, 0, a, 300), claims(c, 3, b, 300)
					n.Book.Notes[0].Asks = asks
					to, time := 3, b
					if asks == 2 && a <= b {
						to, time = 0, a
					}
					older := own > 0 && (own < time || own == time && 1 < to)
					holdSettled(t, c, 1, n, func(k *api.Book) {
						if !older {
							k.Rows[1].Out[to] = 100
						}
					})
				}
			}
		}
	}
}

// TestYieldsNothing: settled, 3. Where R is 0 each request that waits elsewhere is a claim; where nobody waits there, and where it wasn't asked for R times, it isn't.
func TestYieldsNothing(t *testing.T) {
	for r := range 9 {
		c := config(2)
		c.R = r
		for asks := range r + 1 {
			n := with(fresh(c, 0), func(n *api.Node) { n.Book.Notes[1] = api.Note{Clock: heard, Head: ask(9, 1, 5), Asks: asks} })
			holdSettled(t, c, 0, n, func(k *api.Book) {
				if asks == r {
					k.Rows[0].Out[1] = 100
				}
			})
			n.Book.Notes[1].Head = api.Request{}
			holdSettled(t, c, 0, n, nothing)
		}
	}
}
