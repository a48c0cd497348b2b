package node_test

import (
	"math"
	"slices"
	"testing"

	"coffers/api"
)

// mails are the messages of a node to all others, the first one of a time more than the clock.
func mails(c api.Config, who int, n api.Node, clock int64) (l []api.Mail) {
	for i, to := range others(c, who) {
		m := letter(c, who, to, n, clock+1+int64(i))
		m.Asks, m.Look = n.Book.Asks, n.Book.Audit.Look
		if len(n.Book.Line) > 0 {
			m.Head = n.Book.Line[0]
		}
		for of, note := range n.Book.Notes {
			m.Echo[of] = note.Look
		}
		l = append(l, m)
	}
	return l
}

// holdWrites: a tick behind which the node writes: its Ticks are one more, 0 is kept in Asked, there are no Outs but those of change; which tells how many times more the clock is ahead of the messages, and how long it waits then.
func holdWrites(t *testing.T, c api.Config, who int, n api.Node, draw uint32, wait int64, change func(k *api.Book) int64) {
	t.Helper()
	want := with(n, func(n *api.Node) {
		n.Wake.Ticks++
		n.Wake.Next = n.Wake.Ticks + wait
		n.Wake.Asked = append(n.Wake.Asked, 0)
		n.Book.Outs = nil
		n.Book.Clock += change(&n.Book)
	})
	l := mails(c, who, want, want.Book.Clock)
	want.Book.Clock += int64(len(l))
	holdTick(t, c, who, n, draw, want, l, api.OK)
}

// still is no change, and no time more.
func still(k *api.Book) int64 { return 0 }

// TestTickNext: P18.3, Ticks one below Next, equal to it, above it, and far from it. Where they are less, the book is as it was, its Outs too.
func TestTickNext(t *testing.T) {
	for _, n := range []int{1, 2, 16} {
		c := config(n)
		for _, next := range []int64{0, 1, 10, 1000, mostTime - 1} {
			for _, behind := range []int64{-15, -14, -3, -2, -1, 0, 1, 100} {
				// It is about the ticks as they are behind this one.
				ticks := next + behind - 1
				if ticks < 0 || ticks >= mostTime {
					continue
				}
				k := with(fresh(c, 0), func(n *api.Node) { n.Wake = api.Wake{Ticks: ticks, Next: next, Asked: []int64{7}} })
				if behind >= 0 {
					holdWrites(t, c, 0, k, 5, 1, still)
					continue
				}
				want := with(k, func(n *api.Node) { n.Wake.Ticks, n.Wake.Asked = ticks+1, []int64{7, 0} })
				holdTick(t, c, 0, k, 5, want, nil, api.OK)
				// That somebody waits who may leave, and that there is no time more, doesn't matter either.
				k.Book.Clock, k.Book.Line, k.Book.Asks = mostTime, []api.Request{ask(9, 0, 5), ask(10, 0, 500)}, 2
				want.Book = copied(k).Book
				holdTick(t, c, 0, k, 5, want, nil, api.OK)
			}
		}
	}
}

// TestTickAsked: P18.3, 0 is kept in Asked, of which 64 are left.
func TestTickAsked(t *testing.T) {
	c := config(2)
	for size := range 65 {
		for _, next := range []int64{0, 8} {
			k := with(fresh(c, 0), func(n *api.Node) { n.Wake = api.Wake{Ticks: 3, Next: next} })
			for i := range size {
				k.Wake.Asked = append(k.Wake.Asked, int64(i+1))
			}
			want, l, _ := tickWords(c, 0, k, 0)
			want.Wake.Asked = append(slices.Clone(k.Wake.Asked), 0)
			if size == 64 {
				want.Wake.Asked = want.Wake.Asked[1:]
			}
			holdTick(t, c, 0, k, 0, want, l, api.OK)
		}
	}
}

// TestTickRange: P18.3, Ticks of MaxTime, and one below it.
func TestTickRange(t *testing.T) {
	for _, n := range []int{1, 2, 16} {
		c := config(n)
		for _, next := range []int64{0, mostTime - 1, mostTime, mostTime + 1, mostTime + 15} {
			k := with(fresh(c, n-1), func(n *api.Node) { n.Wake = api.Wake{Ticks: mostTime, Next: next} })
			holdTick(t, c, n-1, k, 9, k, nil, api.Range)
			k.Wake.Ticks--
			if next <= mostTime {
				holdWrites(t, c, n-1, k, 9, 1, still)
			} else {
				holdTick(t, c, n-1, k, 9, with(k, func(n *api.Node) { n.Wake.Ticks, n.Wake.Asked = mostTime, []int64{0} }), nil, api.OK)
			}
		}
	}
}

// TestTickClock: P18.3, a Clock of MaxTime, one below it, and as many below it as there are messages to write, and one more or fewer; with an audit that begins there is one more.
func TestTickClock(t *testing.T) {
	for n := 1; n <= 16; n++ {
		c := config(n)
		for _, who := range []int{0, n - 1} {
			for below := range int64(19) {
				quiet := with(fresh(c, who), func(n *api.Node) { n.Book.Clock = mostTime - below })
				if below < int64(n-1) {
					holdTick(t, c, who, quiet, 3, quiet, nil, api.Range)
				} else {
					holdWrites(t, c, who, quiet, 3, 1, still)
				}
				looks := with(waiting(c, who, 1<<30), func(n *api.Node) { n.Book.Clock, n.Book.Asks = mostTime-below, 1 })
				if below < int64(n) {
					holdTick(t, c, who, looks, 3, looks, nil, api.Range)
					continue
				}
				// Alone, it looks twice at once.
				wait := int64(4)
				if n == 1 {
					wait = 1
				}
				holdWrites(t, c, who, looks, 3, wait, func(k *api.Book) int64 {
					k.Asks, k.Audit = 2, begun(c, mostTime-below+1)
					if n == 1 {
						refused(k)
					}
					return 1
				})
			}
		}
	}
}

// begun is an audit of that Try that knows nothing.
func begun(c api.Config, try int64) api.Audit {
	return api.Audit{Look: api.Look{Try: try, Phase: 1}, Told: make([]bool, c.N), Use: make([]int64, c.N), Inc: make([]int64, c.N)}
}

// TestTickAsks: P18.3, 1 and 2. Asks of 0 to R, for each R, with an audit that runs, and none, and a head that is held, and one that isn't.
func TestTickAsks(t *testing.T) {
	for r := range 9 {
		c := config(3)
		c.R, c.P = r, 1
		for asks := range r + 1 {
			for _, runs := range []int{0, 1, 2} {
				for _, held := range []bool{false, true} {
					n := waiting(c, 1, 500, 20)
					n.Book.Asks = asks
					if runs > 0 {
						n.Book.Audit = run(n.Book.Rows, runs, 0)
					}
					if held {
						n.Book.Notes[2] = claims(c, 2, 9, 50)
					}
					holdWrites(t, c, 1, n, 3, 1, func(k *api.Book) int64 {
						if held {
							k.Rows[1].Out[2] = 100
						}
						k.Asks = min(asks+1, r)
						if asks+1 < r || runs > 0 || held {
							return 0
						}
						k.Audit = begun(c, now+1)
						return 1
					})
				}
			}
		}
	}
}

// TestTickServes: P18.3, 4. A head that is asked for, and looked for, may leave in the same step: then nothing of that is left, but the time that it took.
func TestTickServes(t *testing.T) {
	c := config(3)
	for asks := range 3 {
		n := waiting(c, 1, 60, 30, 20)
		n.Book.Asks = asks
		holdWrites(t, c, 1, n, 3, 1, func(k *api.Book) int64 {
			served(1, 2, 90)(k)
			return int64(min(asks, 1))
		})
	}
	// One that was looked for is told, and so is what goes on.
	n := waiting(c, 1, 301, 200)
	n.Book.Asks, n.Book.Audit = 2, run(n.Book.Rows, 2, 0, 2)
	holdWrites(t, c, 1, n, 3, 1, func(k *api.Book) int64 { refused(k); return 0 })
	n.Book.Audit = run(n.Book.Rows, 1, 0, 2)
	holdWrites(t, c, 1, n, 3, 4, func(k *api.Book) int64 {
		k.Audit.Look.Phase, k.Audit.Told = 2, make([]bool, 3)
		return 0
	})
}

// TestTickGives: P18.3, 3. Nobody waits, with a claim and without, with something to give and with nothing; somebody waits.
func TestTickGives(t *testing.T) {
	c := config(3)
	for _, x := range []struct {
		inc   int64
		use   int64 // of 2
		asked []int64
		to    int
		gives int64
	}{
		{60, 0, nil, 0, 30},
		{60, 1, nil, 2, 30}, // half of 61
		{60, 20, nil, 2, 40},
		{1, 0, nil, 0, 0},
		{2, 0, nil, 0, 1},
		{0, 0, nil, 0, 0},
		{0, 1, nil, 0, 0},
		{0, 2, nil, 2, 1},
		{60, 0, []int64{40}, 0, 20}, // the time that went by counts, too
		{60, 0, []int64{40, 0}, 0, 25},
		{60, 0, []int64{118}, 0, 0},
		{60, 0, []int64{117}, 0, 1},
		{60, 0, []int64{-7, mostAmount + 1}, 0, 30},
		{60, 0, []int64{10, 10}, 0, 25},
	} {
		n := with(fresh(c, 1), func(n *api.Node) {
			n.Book.Rows[1].Inc, n.Book.Rows[2].Use, n.Wake.Asked = x.inc, x.use, x.asked
		})
		holdWrites(t, c, 1, n, 3, 1, func(k *api.Book) int64 { k.Rows[1].Out[x.to] = x.gives; return 0 })
		// What waits elsewhere is no claim yet.
		n.Book.Notes[2] = api.Note{Clock: heard, Head: ask(9, 2, 500), Asks: 1}
		holdWrites(t, c, 1, n, 3, 1, func(k *api.Book) int64 { k.Rows[1].Out[x.to] = x.gives; return 0 })
		n.Book.Notes[2].Asks = 2
		holdWrites(t, c, 1, n, 3, 1, func(k *api.Book) int64 { k.Rows[1].Out[2] = 100 + x.inc; return 0 })
		n.Book.Notes[2] = api.Note{}
		n.Book.Line = []api.Request{ask(9, 1, 500)}
		for draw := range uint32(2) {
			holdWrites(t, c, 1, n, draw, 1+int64(draw), func(k *api.Book) int64 { k.Asks = 1; return 0 })
		}
	}
}

// TestTickGivesMost: P18.3, 3. What would be moved above MaxMove, isn't.
func TestTickGivesMost(t *testing.T) {
	c := config(2)
	for _, room := range []int64{0, 1, 28, 29, 30, 31, 60} {
		n := with(fresh(c, 1), func(n *api.Node) {
			n.Book.Rows[1].Inc, n.Book.Rows[1].Out[0], n.Book.Rows[0].Out[1] = 60, mostMove-room, mostMove-room
		})
		holdWrites(t, c, 1, n, 3, 1, func(k *api.Book) int64 {
			if room >= 30 {
				k.Rows[1].Out[0] += 30
			}
			return 0
		})
	}
	alone := with(fresh(config(1), 0), func(n *api.Node) { n.Book.Rows[0].Inc = 60 })
	holdWrites(t, config(1), 0, alone, 3, 1, still)
}

// TestTickMail: P18.3, 5. What is written to each other one, for each N that may be: the looks of the notes, the head, Asks, and the audit's look.
func TestTickMail(t *testing.T) {
	for n := 1; n <= 16; n++ {
		c := config(n)
		for who := range n {
			k := fresh(c, who)
			for _, of := range others(c, who) {
				k.Book.Notes[of] = api.Note{Clock: int64(30 + of), Head: ask(5, of, 9), Asks: 1, Look: api.Look{Try: int64(60 + of), Phase: 1 + of%2}}
				if of%3 == 2 {
					k.Book.Notes[of].Look = api.Look{}
				}
			}
			holdWrites(t, c, who, k, 0, 1, still)
			if n == 1 {
				continue
			}
			k.Book.Line, k.Book.Asks, k.Book.Audit = []api.Request{ask(7, who, 170), ask(8, who, 1)}, 2, run(k.Book.Rows, 2)
			holdWrites(t, c, who, k, 0, 1, still)
		}
	}
	// Written out: that of 0 and that of 2.
	c := config(3)
	n := waiting(c, 1, 200)
	n.Book.Notes[2].Look = api.Look{Try: 33, Phase: 2}
	want := with(n, func(n *api.Node) {
		n.Book.Clock, n.Book.Outs, n.Book.Asks, n.Wake = now+2, nil, 1, api.Wake{Ticks: 1, Next: 3, Asked: []int64{0}}
	})
	rows := []api.Row{of(0, 0, 0, 0, 0), of(0, 0, 0, 0, 0), of(0, 0, 0, 0, 0)}
	echo := []api.Look{{}, {}, {Try: 33, Phase: 2}}
	holdTick(t, c, 1, n, 7, want, []api.Mail{
		{From: 1, To: 0, Clock: now + 1, Rows: rows, Head: ask(11, 1, 200), Asks: 1, Echo: echo},
		{From: 1, To: 2, Clock: now + 2, Rows: rows, Head: ask(11, 1, 200), Asks: 1, Echo: echo},
	}, api.OK)
}

// TestTickWait: P18.3, 6. How long it waits then, by P, Asks, and a draw: 0, the greatest one, and others.
func TestTickWait(t *testing.T) {
	for _, x := range []struct {
		p, asks int
		draw    uint32
		wait    int64
	}{
		{1, 0, 0, 1}, {1, 8, math.MaxUint32, 1}, {4, 0, math.MaxUint32, 1}, {4, 1, 0, 1}, {4, 1, 1, 2}, {4, 1, 2, 1}, {4, 1, math.MaxUint32, 2},
		{4, 2, 0, 1}, {4, 2, 3, 4}, {4, 2, 4, 1}, {4, 2, math.MaxUint32, 4}, {4, 8, 7, 4},
		{16, 3, 0, 1}, {16, 3, 7, 8}, {16, 4, math.MaxUint32, 16}, {16, 8, math.MaxUint32, 16}, {16, 8, 9, 10}, {5, 3, math.MaxUint32, 1}, {5, 3, 4, 5}, {3, 2, math.MaxUint32, 1},
	} {
		c := config(2)
		c.P, c.R = x.p, 8
		n := waiting(c, 0, 101)
		if x.asks == 0 {
			n = fresh(c, 0)
		} else {
			n.Book.Asks = x.asks - 1
		}
		n.Wake.Ticks, n.Wake.Next = 40, 41
		holdWrites(t, c, 0, n, x.draw, x.wait, func(k *api.Book) int64 {
			k.Asks = x.asks
			if x.asks < 8 {
				return 0
			}
			k.Audit = begun(c, now+1)
			return 1
		})
	}
}
