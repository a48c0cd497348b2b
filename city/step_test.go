package city_test

import (
	"math"
	"slices"
	"testing"

	"coffers/api"
	"coffers/book"
	"coffers/city"
	"coffers/frame"
	"coffers/node"
	"coffers/store"
)

// saved is a site whose node that is, behind a step that was saved on a tape that had these bytes and had room for more.
func saved(n api.Node, was []byte) api.Site {
	b := append(slices.Clone(was), framed(book.Put(n.Book))...)
	return api.Site{Up: true, Node: n, Tape: api.Tape{Main: api.Area{Sure: b}}}
}

// has are the bytes of a site's tape.
func has(x api.City, who int) []byte { return x.Sites[who].Tape.Main.Sure }

// TestCodes: P19.2, what a node tells that isn't OK is told, whatever befalls the disk, and the site is as it was; a message that told it is gone.
func TestCodes(t *testing.T) {
	for _, n := range []int{2, 16} {
		c := config(n)
		x := behind(t, c, started(t, c), api.Act{Kind: api.DoDec, Who: 1, Amount: 4}, api.Act{Kind: api.DoTick, Who: 1})
		waits := api.Act{Kind: api.DoDec, Who: 1, Amount: 500}
		at := func(change func(n *api.Node)) api.City {
			return with(x, func(x *api.City) { change(&x.Sites[1].Node) })
		}
		// By the message 1 moved all that it had: it knows better.
		wrong := letter(c, 0, 1, 1)
		wrong.Rows[1].Out[0] = 10
		late := letter(c, 0, 1, mostTime)
		for _, k := range []struct {
			x    api.City
			act  api.Act
			code api.Code
		}{
			{x, api.Act{Kind: api.DoInc, Amount: 0}, api.Invalid},
			{x, api.Act{Kind: api.DoInc, Amount: math.MinInt64}, api.Invalid},
			{x, api.Act{Kind: api.DoInc, Amount: 6}, api.Full},
			{x, api.Act{Kind: api.DoDec, Amount: 0}, api.Invalid},
			{x, api.Act{Kind: api.DoDec, Amount: 1<<40 + 1}, api.Invalid},
			{behind(t, c, x, waits, waits), waits, api.Busy},
			{at(func(n *api.Node) { n.Book.Clock = mostTime }), waits, api.Range},
			{at(func(n *api.Node) { n.Wake.Ticks = mostTime }), api.Act{Kind: api.DoTick}, api.Range},
			{at(func(n *api.Node) { n.Book.Clock = mostTime }), api.Act{Kind: api.DoTick}, api.Range},
			{posted(x, []api.Mail{late}), api.Act{Kind: api.DoDeliver}, api.Range},
			{posted(x, []api.Mail{wrong}), api.Act{Kind: api.DoDeliver}, api.Lacking},
		} {
			want := k.x
			k.act.Who = 1
			if k.act.Kind == api.DoDeliver {
				want, k.act.Who = posted(k.x, nil), 7
			}
			for _, fault := range faults {
				k.act.Fault, k.act.Keep = fault, 9
				holdDo(t, c, k.x, k.act, want, api.Mark{Kind: k.act.Kind, Who: 1, Code: k.code})
			}
		}
	}
}

// TestLeaves: P19.2, a step that leaves the book's bytes as they were: the site has the node, whatever befalls the disk, and no outcome is told, although the book has one.
func TestLeaves(t *testing.T) {
	for _, n := range sizes {
		c := config(n)
		for _, who := range []int{0, n - 1} {
			x := behind(t, c, started(t, c), api.Act{Kind: api.DoDec, Who: who, Amount: 4})
			x.Sites[who].Node.Wake.Next = 3
			if len(x.Sites[who].Node.Book.Outs) == 0 {
				t.Fatalf("the test's own city: nothing was told: %+v", x)
			}
			want := with(x, func(x *api.City) {
				x.Sites[who].Node.Wake = api.Wake{Ticks: 1, Next: 3, Asked: []int64{4, 0}}
			})
			for _, fault := range faults {
				for _, keep := range []int{-1, 0, 9, math.MaxInt} {
					holdDo(t, c, x, api.Act{Kind: api.DoTick, Who: who, Fault: fault, Keep: keep}, want, api.Mark{Kind: api.DoTick, Who: who})
				}
			}
		}
	}
	// Alone, also a tick that writes leaves what nobody waits at.
	c := config(1)
	x := started(t, c)
	want := with(x, func(x *api.City) { x.Sites[0].Node.Wake = api.Wake{Ticks: 1, Next: 2, Asked: []int64{0}} })
	for _, fault := range faults {
		holdDo(t, c, x, api.Act{Kind: api.DoTick, Fault: fault}, want, api.Mark{Kind: api.DoTick})
	}
}

// changing is a city, an act by which a site's book gets other bytes, and what is told and written then.
type changing struct {
	x    api.City
	who  int
	act  api.Act
	node api.Node
	mail []api.Mail
	mark api.Mark
}

// changes are acts of each kind, at a site whose tape has something already and at one whose tape has nothing.
func changes(t *testing.T, c api.Config, who int) (list []changing) {
	first := started(t, c)
	for _, x := range []api.City{first, behind(t, c, first, api.Act{Kind: api.DoInc, Who: who, Amount: 2}), behind(t, c, first, api.Act{Kind: api.DoDec, Who: who, Amount: 2})} {
		k := x.Sites[who].Node
		clock := k.Book.Clock + 1
		add := func(x api.City, a api.Act, n api.Node, l []api.Mail, m api.Mark) {
			a.Who, m.Who, m.Kind = who, who, a.Kind
			list = append(list, changing{x: x, who: who, act: a, node: n, mail: l, mark: m})
		}
		n, _ := node.Inc(c, who, k, 3)
		add(x, api.Act{Kind: api.DoInc, Amount: 3}, n, nil, api.Mark{})
		id := api.Stamp{Time: clock, Who: who}
		n, _, _ = node.Dec(c, who, k, 5)
		add(x, api.Act{Kind: api.DoDec, Amount: 5}, n, nil, api.Mark{Id: id, Outs: []api.Outcome{{Id: id}}})
		n, _, _ = node.Dec(c, who, k, 500)
		add(x, api.Act{Kind: api.DoDec, Amount: 500}, n, nil, api.Mark{Id: id})
		if c.N == 1 {
			continue
		}
		n, l, _ := node.Tick(c, who, k, 7)
		add(x, api.Act{Kind: api.DoTick, Draw: 7}, n, l, api.Mark{})
		m := letter(c, (who+1)%c.N, who, 5)
		n, _ = node.Hear(c, who, k, m)
		add(posted(x, []api.Mail{m}), api.Act{Kind: api.DoDeliver}, n, nil, api.Mark{})
	}
	return list
}

// TestSteps: P19.2, a step that changes the book's bytes, of each kind, with each fault.
func TestSteps(t *testing.T) {
	for _, n := range sizes {
		c := config(n)
		for _, who := range []int{0, n - 1} {
			for _, k := range changes(t, c, who) {
				heard := posted(k.x, nil)
				for _, fault := range faults {
					for _, keep := range []int{-1, 0, 3} {
						k.act.Fault, k.act.Keep = fault, keep
						want, mark := heard, k.mark
						switch fault {
						case 1:
							mark.Code, mark.Id, mark.Outs = api.Unavailable, api.Stamp{}, nil
						case 2:
							want = down(heard, who)
							mark.Code, mark.Id, mark.Outs = api.Down, api.Stamp{}, nil
						default:
							want = posted(heard, k.mail)
							want.Sites[who] = saved(k.node, has(k.x, who))
						}
						holdDo(t, c, k.x, k.act, want, mark)
					}
				}
				if k.act.Kind != api.DoDeliver {
					x := down(k.x, who)
					holdDo(t, c, x, k.act, x, api.Mark{Kind: k.act.Kind, Who: who, Code: api.Down})
				}
			}
		}
	}
}

// TestDraw: P19.2, the tick of a site is that of the draw.
func TestDraw(t *testing.T) {
	c := config(2)
	c.R, c.P = 3, 16
	x := behind(t, c, started(t, c), api.Act{Kind: api.DoDec, Amount: 500})
	for draw := range uint32(20) {
		want, _, _ := node.Tick(c, 0, x.Sites[0].Node, draw)
		got := behind(t, c, x, api.Act{Kind: api.DoTick, Draw: draw})
		if !same(got.Sites[0].Node, want) || want.Wake.Next != 2+int64(draw%2) {
			t.Errorf("P19.2: a tick with the draw %d: %+v, want %+v", draw, got.Sites[0].Node, want)
		}
	}
}

// restarted is the city behind a restart, and what it told.
func restarted(t *testing.T, c api.Config, x api.City, who int) (api.City, api.Mark) {
	t.Helper()
	x, m := city.Do(c, x, api.Act{Kind: api.DoRestart, Who: who})
	if m.Code != api.OK {
		t.Fatalf("P19.2: a restart told %+v", m)
	}
	return x, m
}

// holdTorn: the power goes while a book is saved at a site of x, behind the act of k: the tape has main, and the site, restarted, that node, and tells its outcomes.
func holdTorn(t *testing.T, c api.Config, k changing, x api.City, keep int, main []byte, back api.Book) {
	t.Helper()
	a := k.act
	a.Fault, a.Keep = 2, keep
	want := down(taped(posted(x, nil), k.who, main), k.who)
	holdDo(t, c, x, a, want, api.Mark{Kind: a.Kind, Who: k.who, Code: api.Down})
	got, m := restarted(t, c, want, k.who)
	if !same(got.Sites[k.who].Node, api.Node{Book: back}) || !slices.Equal(m.Outs, back.Outs) {
		t.Errorf("P19.4: %+v, and restarted: %+v, %+v, want %+v", a, got.Sites[k.who].Node, m, back)
	}
}

// TestTorn: P19.2, P19.4, the power goes while a book is saved behind others: restarted, the site has that book, if all of its frame was kept, else the one that it had; and tells its outcomes.
func TestTorn(t *testing.T) {
	for _, n := range sizes {
		c := config(n)
		for _, who := range []int{0, n - 1} {
			for _, k := range changes(t, c, who) {
				was, now := k.x.Sites[who].Node.Book, k.node.Book
				whole := framed(book.Put(now))
				size := len(whole)
				for _, keep := range []int{math.MinInt, -1, 0, 1, size / 2, size - 1} {
					holdTorn(t, c, k, k.x, keep, has(k.x, who), was)
				}
				for _, keep := range []int{size, size + 1, math.MaxInt} {
					holdTorn(t, c, k, k.x, keep, append(slices.Clone(has(k.x, who)), whole...), now)
				}
			}
		}
	}
}

// crowded is the same city, in which a site's tape has its node's book, and so many bytes ahead of it that just so many of the bound are left.
func crowded(t *testing.T, c api.Config, x api.City, who, left int) api.City {
	t.Helper()
	last := framed(book.Put(x.Sites[who].Node.Book))
	return taped(x, who, append(filled(t, book.Bound(c)-left-len(last)), last...))
}

// TestAnew: P19.2, P19.4, a book for which there is just room within the bound is saved behind what is there, one byte more and the tape begins anew; then, torn, however much was kept, the site has the book that it had.
func TestAnew(t *testing.T) {
	for _, n := range sizes {
		c := config(n)
		for _, who := range []int{0, n - 1} {
			for _, k := range changes(t, c, who) {
				was, now := k.x.Sites[who].Node.Book, k.node.Book
				whole := framed(book.Put(now))
				size := len(whole)
				for _, left := range []int{0, size - 1, size, size + 1} {
					x := crowded(t, c, k.x, who, left)
					both := append(slices.Clone(has(x, who)), whole...)
					main := whole
					if left >= size {
						main = both
					}
					want := posted(taped(x, who, main), k.mail)
					want.Sites[who].Node = k.node
					holdDo(t, c, x, k.act, want, k.mark)
					holdMay(t, c, want, true)
					for _, keep := range []int{-1, 0, 1, size / 2, size - 1, size, size + 1, math.MaxInt} {
						if left >= size && keep >= size {
							holdTorn(t, c, k, x, keep, both, now)
						} else {
							holdTorn(t, c, k, x, keep, has(x, who), was)
						}
					}
				}
			}
		}
	}
}

// TestOverAndOver: P19.4, however often a site's book is saved, its tape stays within the bound, and has the last one.
func TestOverAndOver(t *testing.T) {
	for _, n := range []int{1, 3} {
		c := config(n)
		c.Q, c.K = 1, 5000
		x := started(t, c)
		anew := 0
		for i := range 300 {
			was := has(x, n-1)
			x = behind(t, c, x, api.Act{Kind: api.DoDec, Who: n - 1, Amount: int64(1 + i%3)})
			b := book.Put(x.Sites[n-1].Node.Book)
			want := append(slices.Clone(was), framed(b)...)
			if len(was)+frame.Size(len(b)) > book.Bound(c) {
				want = framed(b)
				anew++
			}
			if got := has(x, n-1); !slices.Equal(got, want) || len(got) > book.Bound(c) {
				t.Fatalf("P19.4: behind %d: %d bytes, want %d", i, len(got), len(want))
			}
		}
		if anew < 3 {
			t.Errorf("too few tapes began anew: %d", anew)
		}
	}
}

// TestCrash: P19.2, the power goes while nothing is saved: the node is gone, the tape stays; nothing of a site that isn't Up.
func TestCrash(t *testing.T) {
	for _, n := range sizes {
		c := config(n)
		for who := range n {
			a := api.Act{Kind: api.DoCrash, Who: who, Fault: 2, Keep: 3}
			x := started(t, c)
			holdDo(t, c, x, a, down(x, who), api.Mark{Kind: api.DoCrash, Who: who})
			x = behind(t, c, x, api.Act{Kind: api.DoDec, Who: who, Amount: 4}, api.Act{Kind: api.DoTick, Who: who})
			holdDo(t, c, x, a, down(x, who), api.Mark{Kind: api.DoCrash, Who: who})
			x = down(x, who)
			holdDo(t, c, x, a, x, api.Mark{Kind: api.DoCrash, Who: who, Code: api.Down})
		}
	}
}

// TestRestart: P19.2, the power is back: a new node, where the tape has nothing; else one with the last book there, and nothing beside; Form, where that is none; Arg, where the site is Up.
func TestRestart(t *testing.T) {
	for _, n := range sizes {
		c := config(n)
		for who := range n {
			a := api.Act{Kind: api.DoRestart, Who: who, Fault: 2, Keep: 3}
			first := started(t, c)
			holdDo(t, c, first, a, first, api.Mark{Kind: api.DoRestart, Who: who, Code: api.Arg})
			holdDo(t, c, down(first, who), a, first, api.Mark{Kind: api.DoRestart, Who: who})
			x := behind(t, c, first, api.Act{Kind: api.DoDec, Who: who, Amount: 4})
			holdDo(t, c, x, a, x, api.Mark{Kind: api.DoRestart, Who: who, Code: api.Arg})
			want := with(x, func(x *api.City) { x.Sites[who].Node.Wake = api.Wake{} })
			told := api.Mark{Kind: api.DoRestart, Who: who, Outs: []api.Outcome{outcome(1, who, api.OK)}}
			holdDo(t, c, down(x, who), a, want, told)
			// It may stand behind what is none.
			b := framed(book.Put(x.Sites[who].Node.Book), nil, book.Put(x.Sites[who].Node.Book))
			holdDo(t, c, taped(down(x, who), who, b), a, taped(want, who, b), told)
			k := x.Sites[who].Node.Book
			for _, none := range [][]byte{
				nil,
				{1},
				book.Put(k)[1:],
				append(book.Put(k), 0),
				book.Put(api.Book{Clock: -1, Rows: k.Rows, Notes: k.Notes}),
				book.Put(api.Book{Clock: 9, Rows: k.Rows, Notes: k.Notes, Asks: 1}),
			} {
				dark := taped(down(x, who), who, framed(book.Put(k), none))
				holdDo(t, c, dark, a, dark, api.Mark{Kind: api.DoRestart, Who: who, Code: api.Form})
			}
		}
		if n == 1 {
			continue
		}
		// What another one wrote down isn't one's own.
		x := behind(t, c, started(t, c), api.Act{Kind: api.DoDec, Amount: 4}, api.Act{Kind: api.DoTick}, api.Act{Kind: api.DoDeliver})
		dark := taped(down(x, 0), 0, has(x, 1))
		holdDo(t, c, dark, api.Act{Kind: api.DoRestart}, dark, api.Mark{Kind: api.DoRestart, Code: api.Form})
	}
}

// TestRetold: P19.4, what is told behind a restart is told again as it was, as often as there is one, till a step more is saved.
func TestRetold(t *testing.T) {
	c := config(1)
	x, m := city.Do(c, started(t, c), api.Act{Kind: api.DoDec, Amount: 7})
	want := []api.Outcome{outcome(1, 0, api.OK)}
	for _, a := range []api.Act{{Kind: api.DoCrash}, {Kind: api.DoTick, Fault: 2}, {Kind: api.DoDec, Amount: 2, Fault: 2, Keep: 4}, {Kind: api.DoInc, Amount: 2, Fault: 2}} {
		if !slices.Equal(m.Outs, want) {
			t.Errorf("P19.4: told %+v, want %+v", m, want)
		}
		if x, m = city.Do(c, x, a); x.Sites[0].Up || len(m.Outs) > 0 {
			t.Errorf("P19.2: %+v told %+v, and it is Up still", a, m)
		}
		x, m = restarted(t, c, x, 0)
	}
	x, m = city.Do(c, x, api.Act{Kind: api.DoDec, Amount: 4})
	if m.Code != api.OK || m.Id != (api.Stamp{Time: 2}) || len(m.Outs) != 0 {
		t.Errorf("P19.2: a request that waits told %+v", m)
	}
	x = behind(t, c, x, api.Act{Kind: api.DoCrash})
	if _, m = restarted(t, c, x, 0); len(m.Outs) != 0 {
		t.Errorf("P19.4: told %+v behind a step that told none", m)
	}
}

// TestLastSaved: P19.4, restarted, a site knows no step that wasn't saved: its tape is what it was.
func TestLastSaved(t *testing.T) {
	c := config(2)
	x := behind(t, c, started(t, c), api.Act{Kind: api.DoInc, Amount: 2})
	was := x.Sites[0].Node.Book
	x, _ = city.Do(c, x, api.Act{Kind: api.DoInc, Amount: 3, Fault: 1})
	x, _ = city.Do(c, x, api.Act{Kind: api.DoDec, Amount: 1, Fault: 1})
	x, _ = city.Do(c, x, api.Act{Kind: api.DoTick, Fault: 1})
	if b, ok := store.Has(x.Sites[0].Tape); !ok || !slices.Equal(b, book.Put(was)) || len(x.Mail) != 0 {
		t.Errorf("P19.4: the tape has %v, want %v; on their way are %+v", b, book.Put(was), x.Mail)
	}
	x = behind(t, c, x, api.Act{Kind: api.DoCrash})
	if x, _ = restarted(t, c, x, 0); !same(x.Sites[0].Node, api.Node{Book: was}) {
		t.Errorf("P19.4: restarted: %+v, want %+v", x.Sites[0].Node, was)
	}
}
