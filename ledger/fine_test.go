package ledger

import (
	"slices"
	"testing"

	"coffers/api"
)

// whole is a tale of all kinds of answers, told by a mark, and told again: OK at once, Lacking and OK behind one act, and one that waits.
func whole(t *testing.T) tale {
	t.Helper()
	l, code := tell(api.Config{N: 1, Q: 2, P: 1, K: 6, C: 9}, []api.Act{
		{Kind: api.DoDec, Amount: 2},
		{Kind: api.DoDec, Amount: 7},
		{Kind: api.DoDec, Amount: 3},
		{Kind: api.DoTick},
		{Kind: api.DoCrash},
		{Kind: api.DoRestart},
		{Kind: api.DoInc, Amount: 4},
		{Kind: api.DoDec, Amount: 8},
	})
	want := []Answer{
		{Id: api.Stamp{Time: 1}, Amount: 2, From: 0, To: 0},
		{Id: api.Stamp{Time: 2}, Amount: 7, From: 1, To: 3, Code: api.Lacking},
		{Id: api.Stamp{Time: 3}, Amount: 3, From: 2, To: 3},
		{Id: api.Stamp{Time: 5}, Amount: 8, From: 7, To: -1},
	}
	if code != api.OK || !slices.Equal(l.Values, []int64{6, 4, 4, 4, 1, 1, 1, 5, 5}) || !slices.Equal(l.Answers, want) || len(l.Marks[5].Outs) != 2 {
		t.Fatalf("P20.2: %+v, %d", l, code)
	}
	return l
}

// none: nothing is another one.
func none(l *tale) {}

// shift is when all values from one on are by so much others.
func shift(from int, by int64) func(l *tale) {
	return func(l *tale) {
		for i := from; i < len(l.Values); i++ {
			l.Values[i] += by
		}
	}
}

// change is when one answer is another one.
func change(place int, to func(a *Answer)) func(l *tale) {
	return func(l *tale) { to(&l.Answers[place]) }
}

// mark is when one outcome that a mark tells is another one.
func mark(act, place int, to func(o *api.Outcome)) func(l *tale) {
	return func(l *tale) { to(&l.Marks[act].Outs[place]) }
}

// both are two changes.
func both(one, two func(l *tale)) func(l *tale) {
	return func(l *tale) {
		one(l)
		two(l)
	}
}

// TestFine: P20.3, a story in which one thing is another one is fine no more, where the words say so.
func TestFine(t *testing.T) {
	lacking := func(amount int64, from, to int) func(l *tale) {
		return change(1, func(a *Answer) { a.Amount, a.From, a.To = amount, from, to })
	}
	untold := func(l *tale) { l.Marks[3].Outs, l.Marks[5].Outs = nil, nil }
	for i, k := range []struct {
		spoil func(l *tale)
		want  bool
	}{
		{none, true},
		// No Value is below 0.
		{shift(0, -1), true},
		{shift(0, -2), false},
		{both(shift(7, 1), func(l *tale) { l.puts[6] = 5 }), true},
		{both(shift(4, -2), change(2, func(a *Answer) { a.Amount = 5 })), false},
		// Each is what the one ahead, and the act, come to.
		{shift(1, 1), false},
		{shift(4, 1), false},
		{shift(5, 1), false},
		{shift(5, -1), false},
		{shift(7, -1), false},
		{shift(8, 1), false},
		{func(l *tale) { l.puts[6] = 3 }, false},
		{func(l *tale) { l.puts[4] = 1 }, false},
		{change(0, func(a *Answer) { a.Amount = 1 }), false},
		{change(2, func(a *Answer) { a.To = 4 }), false},
		{change(3, func(a *Answer) { a.To = 7 }), false},
		{change(3, func(a *Answer) { a.Amount = 1 }), true},
		{both(untold, change(2, func(a *Answer) { a.To, a.Code = -1, api.OK })), false},
		{both(untold, change(2, func(a *Answer) { a.Code = api.Lacking })), false},
		// Who is refused saw less: behind its own act, and ahead of the one that told.
		{lacking(5, 1, 3), true},
		{lacking(4, 1, 3), false},
		{lacking(1, 1, 3), false},
		{both(untold, lacking(4, 1, 4)), true},
		{both(untold, lacking(4, 3, 4)), true},
		{both(untold, lacking(4, 4, 4)), false},
		{both(untold, lacking(5, 0, 1)), true},
		{both(untold, lacking(6, 0, 0)), false},
		{lacking(5, 3, 3), false},
		{both(untold, lacking(1, 4, 7)), false},
		{both(untold, lacking(2, 5, 7)), true},
		{both(untold, lacking(2, 6, 7)), false},
		{both(untold, lacking(2, 7, 7)), false},
		{both(untold, lacking(7, 7, 3)), false},
		// What a mark tells is the outcome of an Answer, and was so by then.
		{mark(0, 0, func(o *api.Outcome) { o.Id.Time = 9 }), false},
		{mark(0, 0, func(o *api.Outcome) { o.Id.Who = 1 }), false},
		{mark(0, 0, func(o *api.Outcome) { o.Id.Time = 5 }), false},
		{mark(0, 0, func(o *api.Outcome) { o.Code = api.Lacking }), false},
		{mark(3, 0, func(o *api.Outcome) { o.Code = api.OK }), false},
		{mark(3, 1, func(o *api.Outcome) { o.Code = api.Lacking }), false},
		{mark(5, 1, func(o *api.Outcome) { *o = api.Outcome{Id: api.Stamp{Time: 1}} }), true},
		{func(l *tale) { l.Marks[1].Outs = l.Marks[0].Outs }, true},
		{func(l *tale) { l.Marks[2].Outs = l.Marks[5].Outs }, false},
		{func(l *tale) { l.Marks[0].Outs = l.Marks[3].Outs }, false},
		{func(l *tale) { l.Marks[7].Outs = l.Marks[3].Outs }, true},
		{func(l *tale) { l.Marks[3].Outs = nil }, true},
		{lacking(7, 1, 4), false},
		{both(func(l *tale) { l.Marks[3].Outs = l.Marks[3].Outs[1:] }, lacking(7, 1, 4)), true},
		{both(func(l *tale) { l.Marks[3].Outs = l.Marks[3].Outs[1:] }, lacking(7, 1, 5)), true},
		{both(func(l *tale) { l.Marks[3].Outs = l.Marks[3].Outs[1:] }, lacking(7, 1, 6)), false},
	} {
		l := whole(t)
		if k.spoil(&l); l.fine() != k.want {
			t.Errorf("P20.3: %d: fine: %t, want %t: %+v", i, !k.want, k.want, l)
		}
	}
}
