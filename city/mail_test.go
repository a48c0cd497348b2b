package city_test

import (
	"math"
	"slices"
	"testing"

	"coffers/api"
	"coffers/city"
	"coffers/node"
)

// kinds are those of the acts about messages.
var kinds = []int{api.DoDeliver, api.DoDrop, api.DoTwice}

// without is a list of messages in which the one in that place isn't.
func without(l []api.Mail, at int) []api.Mail {
	return append(slices.Clone(l[:at]), l[at+1:]...)
}

// TestRoom: P19.2, of the messages that a Tick wrote as many are on their way as there is room for: all, some, none; the first ones, in order, behind all others.
func TestRoom(t *testing.T) {
	for _, n := range []int{2, 4, 16} {
		c := config(n)
		for _, who := range []int{0, n - 1} {
			x := started(t, c)
			k, written, code := node.Tick(c, who, x.Sites[who].Node, 0)
			if code != api.OK || len(written) != n-1 {
				t.Fatalf("the test's own tick: %d, %+v", code, written)
			}
			for _, left := range []int{0, 1, 2, n - 2, n - 1, n, 100, 400} {
				x := posted(x, letters(c, mostMail-left))
				l := append(slices.Clone(x.Mail), written[:min(left, n-1)]...)
				want := posted(x, l)
				want.Sites[who] = saved(k, nil)
				holdDo(t, c, x, api.Act{Kind: api.DoTick, Who: who}, want, api.Mark{Kind: api.DoTick, Who: who})
				holdMay(t, c, want, true)
				for _, fault := range []int{1, 2} {
					got, _ := city.Do(c, x, api.Act{Kind: api.DoTick, Who: who, Fault: fault, Keep: math.MaxInt})
					if !same(got.Mail, x.Mail) {
						t.Errorf("P19.2: what wasn't saved is on its way: %+v", got.Mail)
					}
				}
			}
		}
	}
}

// TestAt: P19.2, the message in the place At, modulo how many there are, whatever Who is; its To is told.
func TestAt(t *testing.T) {
	c := config(3)
	for _, many := range []int{1, 2, 5, 399, 400} {
		l := letters(c, many)
		x := posted(started(t, c), l)
		for _, at := range []int{0, 1, many / 2, many - 1, many, many + 1, 2*many - 1, 2 * many, 1 << 40, math.MaxInt} {
			place := at % many
			to := l[place].To
			for i, who := range []int{0, 2, -1, 3, math.MinInt, math.MaxInt} {
				a := api.Act{At: at, Who: who, Fault: faults[i], Keep: i - 1, Amount: int64(i)}
				a.Kind = api.DoDrop
				holdDo(t, c, x, a, posted(x, without(l, place)), api.Mark{Kind: a.Kind, Who: to})
				a.Kind = api.DoTwice
				if many == mostMail {
					holdDo(t, c, x, a, x, api.Mark{Kind: a.Kind, Who: to, Code: api.Range})
				} else {
					holdDo(t, c, x, a, posted(x, append(slices.Clone(l), l[place])), api.Mark{Kind: a.Kind, Who: to})
				}
				if i > 0 {
					continue
				}
				n, _ := node.Hear(c, to, x.Sites[to].Node, l[place])
				want := posted(x, without(l, place))
				want.Sites[to] = saved(n, nil)
				a.Kind = api.DoDeliver
				holdDo(t, c, x, a, want, api.Mark{Kind: a.Kind, Who: to})
			}
		}
	}
}

// TestNoMessage: P19.2, At below 0: Arg; else None, where no message is on its way; the city is as it is.
func TestNoMessage(t *testing.T) {
	for _, n := range sizes {
		c := config(n)
		for _, x := range []api.City{started(t, c), {Sites: make([]api.Site, n)}} {
			for _, kind := range kinds {
				for _, who := range []int{0, n - 1, n, -1, math.MinInt, math.MaxInt} {
					for _, at := range []int{0, 1, 400, math.MaxInt} {
						holdDo(t, c, x, api.Act{Kind: kind, Who: who, At: at}, x, api.Mark{Kind: kind, Who: who, Code: api.None})
					}
					for _, at := range []int{-1, -2, -400, math.MinInt} {
						wrong := api.Mark{Kind: kind, Who: who, Code: api.Arg}
						holdDo(t, c, x, api.Act{Kind: kind, Who: who, At: at}, x, wrong)
						if n == 2 {
							for _, many := range []int{1, 2, 400} {
								x := posted(x, letters(c, many))
								holdDo(t, c, x, api.Act{Kind: kind, Who: who, At: at}, x, wrong)
							}
						}
					}
				}
			}
		}
	}
}

// TestMailDown: P19.2, a message to a site that isn't Up: delivered, it is lost; dropped and sent twice as any other one; wherever one is sent from.
func TestMailDown(t *testing.T) {
	for _, n := range []int{2, 16} {
		c := config(n)
		l := letters(c, 5)
		for at, m := range l {
			for _, x := range []api.City{down(posted(started(t, c), l), m.To), {Sites: make([]api.Site, n), Mail: l}} {
				for _, fault := range faults {
					a := api.Act{At: at, Fault: fault, Keep: 9}
					a.Kind = api.DoDeliver
					holdDo(t, c, x, a, posted(x, without(l, at)), api.Mark{Kind: a.Kind, Who: m.To, Code: api.Down})
					a.Kind = api.DoDrop
					holdDo(t, c, x, a, posted(x, without(l, at)), api.Mark{Kind: a.Kind, Who: m.To})
					a.Kind = api.DoTwice
					holdDo(t, c, x, a, posted(x, append(slices.Clone(l), m)), api.Mark{Kind: a.Kind, Who: m.To})
				}
			}
			// Who sent it may be without power.
			x := down(posted(started(t, c), l), m.From)
			k, _ := node.Hear(c, m.To, x.Sites[m.To].Node, m)
			want := posted(x, without(l, at))
			want.Sites[m.To] = saved(k, nil)
			holdDo(t, c, x, api.Act{Kind: api.DoDeliver, At: at}, want, api.Mark{Kind: api.DoDeliver, Who: m.To})
		}
	}
}

// TestTwiceFull: P19.2, a message sent twice, up to as many as may be on their way; where there are so many, Range, also of a site that isn't Up.
func TestTwiceFull(t *testing.T) {
	c := config(2)
	x := posted(started(t, c), letters(c, 397))
	for at := range 3 {
		x = behind(t, c, x, api.Act{Kind: api.DoTwice, At: at})
	}
	if len(x.Mail) != mostMail || !same(x.Mail[397:], x.Mail[:3]) {
		t.Errorf("P19.2: behind them all are %+v", x.Mail[397:])
	}
	for at, m := range x.Mail {
		for _, x := range []api.City{x, down(x, m.To)} {
			if at%50 == 0 || at > 397 {
				holdDo(t, c, x, api.Act{Kind: api.DoTwice, At: at}, x, api.Mark{Kind: api.DoTwice, Who: m.To, Code: api.Range})
			}
		}
	}
	x = behind(t, c, x, api.Act{Kind: api.DoDrop}, api.Act{Kind: api.DoTwice, At: 399})
	if len(x.Mail) != mostMail {
		t.Errorf("P19.2: %d are on their way", len(x.Mail))
	}
}

// TestHeardOutcome: P19.2, a message by which a request is served: its outcome is told, of the site that it is to.
func TestHeardOutcome(t *testing.T) {
	c := config(2)
	x := behind(t, c, started(t, c), api.Act{Kind: api.DoDec, Amount: 15}, api.Act{Kind: api.DoTick}, api.Act{Kind: api.DoDeliver}, api.Act{Kind: api.DoTick, Who: 1})
	told := []api.Outcome{outcome(1, 0, api.OK)}
	got, m := city.Do(c, x, api.Act{Kind: api.DoDeliver, Who: 1})
	if !same(m, api.Mark{Kind: api.DoDeliver, Outs: told}) || !slices.Equal(got.Sites[0].Node.Book.Outs, told) {
		t.Errorf("P19.2: %+v, want %+v", m, told)
	}
	got, m = city.Do(c, x, api.Act{Kind: api.DoDeliver, Who: 1, Fault: 1})
	if !same(m, api.Mark{Kind: api.DoDeliver, Code: api.Unavailable}) || !same(got, posted(x, nil)) {
		t.Errorf("P19.2: %+v, %+v", m, got)
	}
	got, m = city.Do(c, x, api.Act{Kind: api.DoDeliver, Who: 1, Fault: 2, Keep: 65536})
	if !same(m, api.Mark{Kind: api.DoDeliver, Code: api.Down}) || got.Sites[0].Up || !got.Sites[1].Up || len(got.Mail) != 0 {
		t.Errorf("P19.2: %+v, %+v", m, got)
	}
	if _, m = restarted(t, c, got, 0); !slices.Equal(m.Outs, told) {
		t.Errorf("P19.4: restarted: %+v, want %+v", m, told)
	}
}
