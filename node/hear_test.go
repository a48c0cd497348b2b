package node_test

import (
	"math"
	"testing"

	"coffers/api"
)

// holdHeard: a message behind which the node is so: its clock is a time above both, there are no Outs, the sender's note is what the message tells; and then the change.
func holdHeard(t *testing.T, c api.Config, who int, n api.Node, m api.Mail, change func(k *api.Book)) {
	t.Helper()
	want := with(n, func(n *api.Node) {
		n.Book.Clock, n.Book.Outs = 1+max(n.Book.Clock, m.Clock), nil
		n.Book.Notes[m.From] = api.Note{Clock: m.Clock, Head: m.Head, Asks: m.Asks, Look: m.Look}
		change(&n.Book)
	})
	holdHear(t, c, who, n, m, want, api.OK)
}

// TestHearArg: P18.4, messages that may not be, by one thing each, and one to another one.
func TestHearArg(t *testing.T) {
	for _, n := range []int{2, 3, 16} {
		c := config(n)
		k := fresh(c, 1)
		good := withMail(letter(c, 0, 1, k, 30), func(m *api.Mail) {
			m.Head, m.Asks, m.Look, m.Echo[1] = ask(9, 0, 5), 1, api.Look{Try: 8, Phase: 1}, api.Look{Try: 9, Phase: 2}
		})
		holdHeard(t, c, 1, k, good, nothing)
		for _, spoil := range []func(m *api.Mail){
			func(m *api.Mail) { *m = api.Mail{} },
			func(m *api.Mail) { m.From = 1 },
			func(m *api.Mail) { m.From = -1 },
			func(m *api.Mail) { m.From = n },
			func(m *api.Mail) { m.From = math.MinInt },
			func(m *api.Mail) { m.To = 0 },
			func(m *api.Mail) { m.To = -1 },
			func(m *api.Mail) { m.To = n },
			func(m *api.Mail) { m.From, m.To = 1, 0; m.Head.Id.Who = 1; m.Echo[1] = api.Look{} },
			func(m *api.Mail) { m.From, m.To = n-1, 0; m.Head.Id.Who = n - 1; m.Echo[n-1] = api.Look{} },
			func(m *api.Mail) { m.Clock = 0 },
			func(m *api.Mail) { m.Clock = -1 },
			func(m *api.Mail) { m.Clock = mostTime + 1 },
			func(m *api.Mail) { m.Clock = math.MaxInt64 },
			func(m *api.Mail) { m.Rows = nil },
			func(m *api.Mail) { m.Rows[0].Use = 101 },
			func(m *api.Mail) { m.Rows[0].Inc = -1 },
			func(m *api.Mail) { m.Rows[1].Out = nil },
			func(m *api.Mail) { m.Head.Id.Who = 1 },
			func(m *api.Mail) { m.Head.Id.Time = 0 },
			func(m *api.Mail) { m.Head.Amount = 0 },
			func(m *api.Mail) { m.Head.Amount = mostAmount + 1 },
			func(m *api.Mail) { m.Asks = -1 },
			func(m *api.Mail) { m.Asks = 3 },
			func(m *api.Mail) { m.Look.Phase = 3 },
			func(m *api.Mail) { m.Look.Try = 0 },
			func(m *api.Mail) { m.Echo = m.Echo[1:] },
			func(m *api.Mail) { m.Echo = nil },
			func(m *api.Mail) { m.Echo[0] = api.Look{Try: 1, Phase: 1} },
			func(m *api.Mail) { m.Echo[1].Phase = -1 },
		} {
			holdHear(t, c, 1, k, withMail(good, spoil), k, api.Arg)
			// Arg comes ahead of Range.
			late := with(k, func(n *api.Node) { n.Book.Clock = mostTime })
			holdHear(t, c, 1, late, withMail(good, spoil), late, api.Arg)
		}
	}
	// Alone, nobody writes to one.
	c := config(1)
	k := fresh(c, 0)
	for from := range 2 {
		holdHear(t, c, 0, k, letter(c, from, 0, k, 9), k, api.Arg)
	}
}

// TestHearClock: P18.4, a clock that is above the message's, alike, and below it; there is no time above MaxTime.
func TestHearClock(t *testing.T) {
	c := config(3)
	for _, own := range []int64{0, 1, 30, mostTime - 2, mostTime - 1, mostTime} {
		for _, seen := range []int64{1, 2, 29, 30, 31, mostTime - 2, mostTime - 1, mostTime} {
			n := with(fresh(c, 2), func(n *api.Node) { n.Book.Clock, n.Book.Outs, n.Book.Notes[0].Clock = own, nil, 0 })
			m := letter(c, 0, 2, n, seen)
			if max(own, seen) == mostTime {
				holdHear(t, c, 2, n, m, n, api.Range)
			} else {
				holdHeard(t, c, 2, n, m, nothing)
			}
		}
	}
}

// TestHearRows: P18.4, the rows are joined; where they can't be, Lacking is told, behind Range.
func TestHearRows(t *testing.T) {
	c := config(3)
	n := with(fresh(c, 1), func(n *api.Node) { n.Book.Rows[1], n.Book.Rows[2] = of(5, 30, 10, 0, 0), of(1, 8, 0, 7, 0) })
	m := withMail(letter(c, 0, 1, n, 30), func(m *api.Mail) {
		m.Rows = []api.Row{of(2, 3, 0, 4, 5), of(4, 31, 9, 0, 2), of(9, 0, 3, 6, 0)}
	})
	holdHeard(t, c, 1, n, m, func(k *api.Book) {
		k.Rows = []api.Row{of(2, 3, 0, 4, 5), of(5, 31, 10, 0, 2), of(9, 8, 3, 7, 0)}
	})
	// So does what is known already, and what is older.
	m.Clock = heard
	want := with(n, func(n *api.Node) {
		n.Book.Clock, n.Book.Outs, n.Book.Rows = now+1, nil, []api.Row{of(2, 3, 0, 4, 5), of(5, 31, 10, 0, 2), of(9, 8, 3, 7, 0)}
	})
	holdHear(t, c, 1, n, m, want, api.OK)
	// One spent what the other one has moved away.
	for use := range int64(101) {
		n := with(fresh(c, 1), func(n *api.Node) { n.Book.Rows[1].Use = use })
		m := withMail(letter(c, 0, 1, n, 30), func(m *api.Mail) { m.Rows[1] = of(0, 0, 0, 0, 60) })
		if use <= 40 {
			holdHeard(t, c, 1, n, m, func(k *api.Book) { k.Rows[1] = of(0, use, 0, 0, 60) })
			continue
		}
		holdHear(t, c, 1, n, m, n, api.Lacking)
		n.Book.Clock = mostTime
		holdHear(t, c, 1, n, m, n, api.Range)
	}
	// What comes may serve who waits.
	n = waiting(c, 1, 130, 30, 1)
	m = withMail(letter(c, 0, 1, n, 30), func(m *api.Mail) { m.Rows[0].Out[1] = 60 })
	holdHeard(t, c, 1, n, m, func(k *api.Book) {
		k.Rows[0].Out[1] = 60
		served(1, 2, 160)(k)
	})
}

// TestHearNotes: P18.4, a message of one clock above that of the sender's note is noted, one that isn't above isn't.
func TestHearNotes(t *testing.T) {
	c := config(3)
	for _, clock := range []int64{1, heard - 1, heard, heard + 1, 1000} {
		for _, head := range []api.Request{{}, ask(9, 2, 5)} {
			for asks := range 2 {
				n := with(fresh(c, 0), func(n *api.Node) {
					n.Book.Notes[2] = api.Note{Clock: heard, Head: ask(8, 2, 6), Look: api.Look{Try: 3, Phase: 2}}
				})
				m := withMail(letter(c, 2, 0, n, clock), func(m *api.Mail) { m.Head, m.Asks, m.Look = head, asks, api.Look{Try: 4, Phase: 1} })
				if clock > heard {
					holdHeard(t, c, 0, n, m, nothing)
					continue
				}
				holdHear(t, c, 0, n, m, with(n, func(n *api.Node) { n.Book.Clock, n.Book.Outs = now+1, nil }), api.OK)
			}
		}
	}
}

// TestHearGrants: P18.4, something to grant, and nothing: by the rights of both, what was asked of late, and what may be moved.
func TestHearGrants(t *testing.T) {
	c := config(3)
	for _, x := range []struct {
		need, use, from int64
		asked           []int64
		room            int64
		grants          int64
	}{
		{130, 0, 0, nil, mostMove, 30},
		{101, 0, 0, nil, mostMove, 1},
		{100, 0, 0, nil, mostMove, 0},
		{99, 0, 0, nil, mostMove, 0},
		{1, 0, 0, nil, mostMove, 0},
		{1, 0, 100, nil, mostMove, 1},
		{200, 0, 0, nil, mostMove, 100},
		{201, 0, 0, nil, mostMove, 100},
		{mostAmount, 0, 0, nil, mostMove, 100},
		{150, 60, 0, nil, mostMove, 40},
		{150, 100, 0, nil, mostMove, 0},
		{150, 0, 30, nil, mostMove, 80},
		{150, 0, 0, []int64{49}, mostMove, 50},
		{150, 0, 0, []int64{51}, mostMove, 49}, // time that goes by is kept by ticks alone
		{150, 0, 0, []int64{99}, mostMove, 1},
		{150, 0, 0, []int64{100}, mostMove, 0},
		{150, 0, 0, []int64{98, 0}, mostMove, 50},
		{150, 0, 0, []int64{102, 0}, mostMove, 49},
		{150, 0, 0, []int64{40, 40}, mostMove, 20},
		{150, 0, 0, nil, 50, 50},
		{150, 0, 0, nil, 51, 50},
		{150, 0, 0, nil, 49, 0},
		{150, 0, 0, nil, 0, 0},
	} {
		n := with(fresh(c, 1), func(n *api.Node) {
			n.Book.Rows[1].Use, n.Book.Rows[0].Use, n.Wake.Asked = x.use, x.from, x.asked
			n.Book.Rows[1].Out[0], n.Book.Rows[0].Out[1] = mostMove-x.room, mostMove-x.room
		})
		for asks := range 2 {
			m := withMail(letter(c, 0, 1, n, heard+1), func(m *api.Mail) { m.Head, m.Asks = ask(9, 0, x.need), asks })
			holdHeard(t, c, 1, n, m, func(k *api.Book) { k.Rows[1].Out[0] += x.grants })
		}
	}
}

// TestHearGrantsNot: P18.4, each of what must be for a grant, and isn't: a clock above that of the note, a head, Asks less than R, nobody waits here, and there is no claim.
func TestHearGrantsNot(t *testing.T) {
	c := config(3)
	n := fresh(c, 1)
	m := withMail(letter(c, 0, 1, n, heard+1), func(m *api.Mail) { m.Head = ask(9, 0, 130) })
	holdHeard(t, c, 1, n, m, func(k *api.Book) { k.Rows[1].Out[0] = 30 })
	none := withMail(m, func(m *api.Mail) { m.Head = api.Request{} })
	holdHeard(t, c, 1, n, none, nothing)
	for _, clock := range []int64{1, heard - 1, heard} {
		m := withMail(m, func(m *api.Mail) { m.Clock = clock })
		holdHear(t, c, 1, n, m, with(n, func(n *api.Node) { n.Book.Clock, n.Book.Outs = now+1, nil }), api.OK)
	}
	// It claims: then all goes there.
	claim := withMail(m, func(m *api.Mail) { m.Asks = 2 })
	holdHeard(t, c, 1, n, claim, func(k *api.Book) { k.Rows[1].Out[0] = 100 })
	waits := with(n, func(n *api.Node) { n.Book.Line = []api.Request{ask(10, 1, 101)} })
	holdHeard(t, c, 1, waits, m, nothing)
	// Also where who waits leaves in that very step.
	waits.Book.Line[0].Amount = 20
	holdHeard(t, c, 1, waits, m, served(1, 1, 20))
	claimed := with(n, func(n *api.Node) { n.Book.Notes[2] = claims(c, 2, 99, 5) })
	holdHeard(t, c, 1, claimed, m, func(k *api.Book) { k.Rows[1].Out[2] = 100 })
	claimed.Book.Notes[2].Asks = 1
	holdHeard(t, c, 1, claimed, m, func(k *api.Book) { k.Rows[1].Out[0] = 30 })
	// What it claimed ahead of that is forgotten.
	claimed = with(n, func(n *api.Node) { n.Book.Notes[0] = claims(c, 0, 8, 500) })
	holdHeard(t, c, 1, claimed, m, func(k *api.Book) { k.Rows[1].Out[0] = 30 })
	// Where R is 0 there is nothing to ask for: all that waits claims.
	c.R = 0
	holdHeard(t, c, 1, n, m, func(k *api.Book) { k.Rows[1].Out[0] = 100 })
}

// TestHearGrantsJoined: P18.4, what is granted is reckoned from the rows joined.
func TestHearGrantsJoined(t *testing.T) {
	c := config(2)
	n := fresh(c, 1)
	m := withMail(letter(c, 0, 1, n, heard+1), func(m *api.Mail) {
		m.Head, m.Rows[0].Inc, m.Rows[0].Use, m.Rows[0].Out[1] = ask(9, 0, 130), 20, 50, 5
	})
	// 0 has 65, and 1 has 105.
	holdHeard(t, c, 1, n, m, func(k *api.Book) {
		k.Rows = []api.Row{of(20, 50, 0, 5), of(0, 0, 65, 0)}
	})
}

// TestHearAudit: P18.4, the audit is told, by one that heard of its look; it goes on, and ends, in the same step.
func TestHearAudit(t *testing.T) {
	c := config(3)
	try := func(amount int64, audit api.Audit, change func(k *api.Book)) {
		t.Helper()
		n := waiting(c, 1, amount)
		n.Book.Rows[2].Use, n.Book.Asks, n.Book.Audit = 10, 2, audit
		m := withMail(letter(c, 0, 1, n, heard+1), func(m *api.Mail) { m.Echo[1], m.Rows[0] = audit.Look, of(6, 4, 0, 0, 0) })
		joined := func(k *api.Book) {
			k.Rows[0] = of(6, 4, 0, 0, 0)
			change(k)
		}
		holdHeard(t, c, 1, n, m, joined)
		// A message that isn't above the note tells the audit all the same.
		m.Clock = heard
		holdHear(t, c, 1, n, m, with(n, func(n *api.Node) {
			n.Book.Clock, n.Book.Outs = now+1, nil
			joined(&n.Book)
		}), api.OK)
		for _, other := range []api.Look{{}, {Try: 39, Phase: audit.Look.Phase}, {Try: 40, Phase: 3 - audit.Look.Phase}} {
			m := withMail(m, func(m *api.Mail) { m.Clock, m.Echo[1] = heard+1, other })
			holdHeard(t, c, 1, n, m, func(k *api.Book) { k.Rows[0] = of(6, 4, 0, 0, 0) })
		}
	}
	audit := func(phase int, told ...int) api.Audit {
		a := run([]api.Row{of(0, 4), of(0, 0), of(2, 10)}, phase, told...)
		if phase == 1 {
			a.Use[0], a.Inc[2] = 0, 0
		}
		return a
	}
	try(500, audit(1), func(k *api.Book) { k.Audit.Told[0], k.Audit.Use[0] = true, 4 })
	try(500, audit(1, 0), nothing)
	try(500, audit(1, 2), func(k *api.Book) {
		k.Audit.Look.Phase, k.Audit.Told, k.Audit.Use[0] = 2, make([]bool, 3), 4
	})
	try(500, audit(2), func(k *api.Book) { k.Audit.Told[0], k.Audit.Inc[0] = true, 6 })
	try(500, audit(2, 0), nothing)
	// Most is 300 and 8, less 14.
	try(295, audit(2, 2), refused)
	try(294, audit(2, 2), ended)
	try(293, audit(2, 2), ended)
	moved := audit(2, 2)
	moved.Use[0] = 3
	try(295, moved, ended)
	try(500, moved, ended)
	moved = audit(2)
	moved.Use[0] = 5
	try(500, moved, func(k *api.Book) { k.Audit.Told[0], k.Audit.Inc[0], k.Audit.Moved = true, 6, true })
	// Whoever is told OK by what comes, isn't looked for any more.
	n := waiting(c, 1, 103)
	n.Book.Asks, n.Book.Audit = 2, run(n.Book.Rows, 2, 2)
	m := withMail(letter(c, 0, 1, n, heard+1), func(m *api.Mail) { m.Echo[1], m.Rows[0] = n.Book.Audit.Look, of(0, 0, 0, 3, 0) })
	holdHeard(t, c, 1, n, m, func(k *api.Book) {
		k.Rows[0] = of(0, 0, 0, 3, 0)
		served(1, 1, 103)(k)
	})
}
