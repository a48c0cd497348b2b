package ledger_test

import (
	"slices"
	"testing"

	"coffers/api"
	"coffers/ledger"
)

// asks are the acts by which 0, of two, asks 1 for all that it has, and hears what came of that.
func asks() []api.Act {
	return []api.Act{tick(0), deliver(0), tick(1), deliver(0)}
}

// joined are some acts, and others behind them.
func joined(first []api.Act, others ...[]api.Act) []api.Act {
	return slices.Concat(append([][]api.Act{first}, others...)...)
}

// same6 are so many values of 6, and some behind them.
func same6(n int, others ...int64) []int64 {
	return append(slices.Repeat([]int64{6}, n), others...)
}

// TestAtOnce: P20.2, requests that are answered behind their own act.
func TestAtOnce(t *testing.T) {
	holdStory(t, config(1), []api.Act{dec(0, 1), dec(0, 2), inc(0, 4), dec(0, 7)}, []int64{6, 5, 3, 7, 0},
		answer(1, 0, 1, 0, 0, api.OK), answer(2, 0, 2, 1, 1, api.OK), answer(3, 0, 7, 3, 3, api.OK))
}

// TestLater: P20.2, requests that are answered behind a later act: when something is put in, at a tick, behind a message; and ones that never are.
func TestLater(t *testing.T) {
	alone, pair := config(1), config(2)
	for _, k := range []struct {
		c       api.Config
		acts    []api.Act
		values  []int64
		answers []ledger.Answer
	}{
		{alone, []api.Act{dec(0, 7), inc(0, 3)}, []int64{6, 6, 2}, []ledger.Answer{answer(1, 0, 7, 0, 1, api.OK)}},
		{alone, []api.Act{dec(0, 7), inc(0, 0), inc(0, 3)}, []int64{6, 6, 6, 2}, []ledger.Answer{answer(1, 0, 7, 0, 2, api.OK)}},
		{alone, []api.Act{dec(0, 7), tick(0)}, []int64{6, 6, 6}, []ledger.Answer{answer(1, 0, 7, 0, 1, api.Lacking)}},
		{alone, []api.Act{dec(0, 3), dec(0, 4), tick(0)}, []int64{6, 3, 3, 3}, []ledger.Answer{answer(1, 0, 3, 0, 0, api.OK), answer(2, 0, 4, 1, 2, api.Lacking)}},
		{alone, []api.Act{dec(0, 7)}, []int64{6, 6}, []ledger.Answer{answer(1, 0, 7, 0, -1, api.OK)}},
		{alone, []api.Act{dec(0, 7), refused(tick(0)), inc(0, 10)}, []int64{6, 6, 6, 6}, []ledger.Answer{answer(1, 0, 7, 0, -1, api.OK)}},
		{pair, joined([]api.Act{dec(0, 5)}, asks()), same6(5, 1), []ledger.Answer{answer(1, 0, 5, 0, 4, api.OK)}},
		{pair, joined([]api.Act{dec(0, 5)}, asks()[:3]), same6(5), []ledger.Answer{answer(1, 0, 5, 0, -1, api.OK)}},
		{pair, joined([]api.Act{dec(0, 7)}, asks()), same6(6), []ledger.Answer{answer(1, 0, 7, 0, -1, api.OK)}},
		{pair, joined([]api.Act{dec(0, 7)}, asks(), asks()), same6(10), []ledger.Answer{answer(1, 0, 7, 0, 8, api.Lacking)}},
	} {
		holdStory(t, k.c, k.acts, k.values, k.answers...)
	}
	// With R 2 it is asked for twice ahead of that.
	alone.R = 2
	holdStory(t, alone, []api.Act{dec(0, 7), tick(0), tick(0)}, same6(4), answer(1, 0, 7, 0, 2, api.Lacking))
}

// TestTooLate: P20.2, P20.4, what is put in behind the moment at which there was less doesn't help: refused is refused, and that is fine.
func TestTooLate(t *testing.T) {
	c := config(2)
	acts := joined([]api.Act{dec(0, 7)}, asks(), asks()[:3], []api.Act{inc(1, 5), deliver(0)})
	holdStory(t, c, acts, same6(9, 11, 11), answer(1, 0, 7, 0, 9, api.Lacking))
	// What is put in here is known: it helps.
	acts[8] = inc(0, 5)
	holdStory(t, c, acts, same6(9, 4, 4), answer(1, 0, 7, 0, 8, api.OK))
}

// TestBehindRestart: P20.2, requests that wait while the power goes, and are answered behind the restart.
func TestBehindRestart(t *testing.T) {
	c := config(1)
	holdStory(t, c, []api.Act{dec(0, 7), crash(0), restart(0), tick(0)}, same6(5), answer(1, 0, 7, 0, 3, api.Lacking))
	holdStory(t, c, []api.Act{dec(0, 7), crash(0), restart(0), inc(0, 3)}, same6(4, 2), answer(1, 0, 7, 0, 3, api.OK))
	holdStory(t, c, []api.Act{dec(0, 7), torn(tick(0), 0), restart(0), inc(0, 3)}, same6(4, 2), answer(1, 0, 7, 0, 3, api.OK))
	holdStory(t, c, []api.Act{dec(0, 7), crash(0), restart(0)}, same6(4), answer(1, 0, 7, 0, -1, api.OK))
	holdStory(t, config(2), joined([]api.Act{dec(0, 7)}, asks(), []api.Act{crash(0), crash(1), restart(1), restart(0)}, asks()), same6(14), answer(1, 0, 7, 0, 12, api.Lacking))
}

// TestDark: P20.2, outcomes that stand in the book of a site that isn't Up, when they first stand there: the power went while they were written down, and all was kept; a restart tells them.
func TestDark(t *testing.T) {
	alone, pair := config(1), config(2)
	for _, k := range []struct {
		c      api.Config
		acts   []api.Act
		values []int64
		answer ledger.Answer
	}{
		{alone, []api.Act{torn(dec(0, 2), whole)}, []int64{6, 4}, answer(1, 0, 2, 0, 0, api.OK)},
		{alone, []api.Act{dec(0, 7), torn(inc(0, 3), whole)}, []int64{6, 6, 2}, answer(1, 0, 7, 0, 1, api.OK)},
		{alone, []api.Act{dec(0, 7), torn(tick(0), whole)}, []int64{6, 6, 6}, answer(1, 0, 7, 0, 1, api.Lacking)},
		{pair, joined([]api.Act{dec(0, 5)}, asks()[:3], []api.Act{torn(deliver(0), whole)}), same6(5, 1), answer(1, 0, 5, 0, 4, api.OK)},
		{pair, joined([]api.Act{dec(0, 7)}, asks(), asks()[:3], []api.Act{torn(deliver(0), whole)}), same6(10), answer(1, 0, 7, 0, 8, api.Lacking)},
	} {
		marks := holdStory(t, k.c, k.acts, k.values, k.answer)
		if last := marks[len(marks)-1]; last.Code != api.Down || len(last.Outs) != 0 {
			t.Errorf("P20.2: the last mark is %+v", last)
		}
		left := k.values[len(k.values)-1]
		marks = holdStory(t, k.c, joined(k.acts, []api.Act{dec(0, 1), restart(0), crash(0), restart(0)}), append(k.values, left, left, left, left), k.answer)
		for _, m := range []api.Mark{marks[len(marks)-3], marks[len(marks)-1]} {
			if !slices.Equal(m.Outs, []api.Outcome{{Id: k.answer.Id, Code: k.answer.Code}}) {
				t.Errorf("P20.2: a restart told %+v, want the outcome of %+v", m, k.answer)
			}
		}
	}
}

// TestToldAgain: P20.2, an outcome is told again behind each restart, till something else is written down; the answer stays where it was.
func TestToldAgain(t *testing.T) {
	c := config(1)
	acts := []api.Act{dec(0, 2), crash(0), restart(0), crash(0), restart(0), inc(0, 1), crash(0), restart(0)}
	marks := holdStory(t, c, acts, []int64{6, 4, 4, 4, 4, 4, 5, 5, 5}, answer(1, 0, 2, 0, 0, api.OK))
	for at, m := range marks {
		if told := at == 0 || at == 2 || at == 4; told != (len(m.Outs) == 1) {
			t.Errorf("P20.2: the mark of act %d is %+v", at, m)
		}
	}
	holdStory(t, c, []api.Act{dec(0, 7), tick(0), crash(0), restart(0)}, same6(5), answer(1, 0, 7, 0, 1, api.Lacking))
}

// TestSeveralSites: P20.2, requests of several sites at the same time, each with its own stamp.
func TestSeveralSites(t *testing.T) {
	for _, n := range []int{2, 3, 16} {
		c := config(n)
		c.K = 10 * int64(n)
		var acts []api.Act
		left := c.K
		values := []int64{left}
		var answers []ledger.Answer
		for i := range 2 * n {
			who := n - 1 - i%n
			amount := int64(1 + who%4)
			left -= amount
			acts, values = append(acts, dec(who, amount)), append(values, left)
			answers = append(answers, answer(int64(1+i/n), who, amount, i, i, api.OK))
		}
		for who := range n {
			acts, values = append(acts, dec(who, 500)), append(values, left)
			answers = append(answers, answer(3, who, 500, 2*n+who, -1, api.OK))
		}
		holdStory(t, c, acts, values, answers...)
	}
	// Of one time, answered one behind the other: the older one goes ahead.
	c := config(2)
	holdStory(t, c, joined([]api.Act{dec(1, 4), dec(0, 4)}, []api.Act{tick(0), deliver(0), tick(1), deliver(0)}), same6(6, 2),
		answer(1, 1, 4, 0, -1, api.OK), answer(1, 0, 4, 1, 5, api.OK))
}

// TestSeveralOutcomes: P20.2, several outcomes behind one act, alike and unlike.
func TestSeveralOutcomes(t *testing.T) {
	c := config(1)
	holdStory(t, c, []api.Act{dec(0, 7), dec(0, 2), dec(0, 4), tick(0)}, same6(4, 0),
		answer(1, 0, 7, 0, 3, api.Lacking), answer(2, 0, 2, 1, 3, api.OK), answer(3, 0, 4, 2, 3, api.OK))
	holdStory(t, c, []api.Act{dec(0, 7), dec(0, 8), dec(0, 4), inc(0, 9)}, same6(4, 0),
		answer(1, 0, 7, 0, 3, api.OK), answer(2, 0, 8, 1, 3, api.OK), answer(3, 0, 4, 2, -1, api.OK))
	holdStory(t, c, []api.Act{dec(0, 7), dec(0, 9), dec(0, 2), tick(0), tick(0)}, same6(5, 4),
		answer(1, 0, 7, 0, 3, api.Lacking), answer(2, 0, 9, 1, 4, api.Lacking), answer(3, 0, 2, 2, 4, api.OK))
	holdStory(t, config(2), joined([]api.Act{dec(0, 7), dec(0, 2)}, asks(), asks()), same6(10, 4),
		answer(1, 0, 7, 0, 9, api.Lacking), answer(2, 0, 2, 1, 9, api.OK))
}

// TestMessages: P20.2, messages that are dropped, twice, and in another order.
func TestMessages(t *testing.T) {
	c := config(2)
	one := []ledger.Answer{answer(1, 0, 5, 0, 4, api.OK)}
	first := []api.Act{dec(0, 5)}
	holdStory(t, c, joined(first, []api.Act{tick(0), drop(0), tick(1), deliver(0)}), same6(6), answer(1, 0, 5, 0, -1, api.OK))
	holdStory(t, c, joined(first, []api.Act{tick(0), deliver(0), tick(1), drop(0)}), same6(6), answer(1, 0, 5, 0, -1, api.OK))
	// What was lost is told once more, later.
	holdStory(t, c, joined(first, asks()[:3], []api.Act{drop(0), tick(1), deliver(0)}), same6(7, 1), answer(1, 0, 5, 0, 6, api.OK))
	holdStory(t, c, joined(first, asks()[:3], []api.Act{twice(0), deliver(0), deliver(0)}), same6(6, 1, 1), answer(1, 0, 5, 0, 5, api.OK))
	holdStory(t, c, joined(first, []api.Act{tick(0), twice(0), deliver(1), tick(1), deliver(1), deliver(0)}), same6(6, 1, 1), answer(1, 0, 5, 0, 5, api.OK))
	// The later one of two messages comes first: it tells all that the other one does.
	holdStory(t, c, joined(first, asks()[:3], []api.Act{tick(1), deliver(1), deliver(0)}), same6(6, 1, 1), answer(1, 0, 5, 0, 5, api.OK))
	// None is on its way, or none by that number.
	holdStory(t, c, joined(first, []api.Act{deliver(0), drop(3), twice(1)}, asks()[:3], []api.Act{deliver(-1), deliver(7)}), same6(9, 1), answer(1, 0, 5, 0, 8, api.OK))
	// It comes where there is no power, and is lost.
	holdStory(t, c, joined(first, asks()[:3], []api.Act{crash(0), deliver(0), restart(0), tick(1), deliver(0)}), same6(9, 1), answer(1, 0, 5, 0, 8, api.OK))
	holdStory(t, c, joined(first, asks()), same6(5, 1), one...)
}
