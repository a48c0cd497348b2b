package ledger_test

import (
	"math"
	"slices"
	"testing"

	"coffers/api"
	"coffers/book"
	"coffers/city"
	"coffers/ledger"
	"coffers/store"
)

// How many acts there may be, and the greatest amount.
const (
	mostActs   = 400
	mostAmount = 1 << 40
)

// whole is more than all bytes of any book.
const whole = math.MaxInt

// sizes are how many replicas the tests of the edges have.
var sizes = []int{1, 2, 16}

// farWhos are no replicas of n.
func farWhos(n int) []int {
	return []int{-1, -2, -n - 1, -1 << 32, n, n + 1, n + 16, n + 1<<32, 1 << 62, math.MinInt, math.MinInt + 1, math.MaxInt}
}

// config is one of n replicas, where who asks claims at once, and 6 is there at first.
func config(n int) api.Config {
	return api.Config{N: n, Q: 3, P: 1, K: 6, C: 9}
}

// wrongConfigs are some that may not be, of 2 replicas where they can: one thing is wrong with each.
func wrongConfigs() []api.Config {
	list := []api.Config{{}}
	for _, spoil := range []func(c *api.Config){
		func(c *api.Config) { c.N = 0 },
		func(c *api.Config) { c.N = -1 },
		func(c *api.Config) { c.N = 17 },
		func(c *api.Config) { c.N = 1 << 40 },
		func(c *api.Config) { c.N = math.MinInt },
		func(c *api.Config) { c.N = math.MaxInt },
		func(c *api.Config) { c.Q = 0 },
		func(c *api.Config) { c.Q = 9 },
		func(c *api.Config) { c.R = -1 },
		func(c *api.Config) { c.R = 9 },
		func(c *api.Config) { c.P = 0 },
		func(c *api.Config) { c.P = 17 },
		func(c *api.Config) { c.K = -1 },
		func(c *api.Config) { c.K = mostAmount + 1 },
		func(c *api.Config) { c.C = -1 },
		func(c *api.Config) { c.C = mostAmount },
	} {
		c := config(2)
		spoil(&c)
		list = append(list, c)
	}
	return list
}

// The acts, written short.
func inc(who int, amount int64) api.Act { return api.Act{Kind: api.DoInc, Who: who, Amount: amount} }
func dec(who int, amount int64) api.Act { return api.Act{Kind: api.DoDec, Who: who, Amount: amount} }
func tick(who int) api.Act              { return api.Act{Kind: api.DoTick, Who: who} }
func crash(who int) api.Act             { return api.Act{Kind: api.DoCrash, Who: who} }
func restart(who int) api.Act           { return api.Act{Kind: api.DoRestart, Who: who} }
func deliver(at int) api.Act            { return api.Act{Kind: api.DoDeliver, At: at} }
func drop(at int) api.Act               { return api.Act{Kind: api.DoDrop, At: at} }
func twice(at int) api.Act              { return api.Act{Kind: api.DoTwice, At: at} }

// refused is the act while the disk refuses.
func refused(a api.Act) api.Act {
	a.Fault = 1
	return a
}

// torn is the act while the power goes, with so many bytes kept.
func torn(a api.Act, keep int) api.Act {
	a.Fault, a.Keep = 2, keep
	return a
}

// answer is one, written short: of the time and whose the stamp is, and the rest.
func answer(time int64, who int, amount int64, from, to int, code api.Code) ledger.Answer {
	return ledger.Answer{Id: api.Stamp{Time: time, Who: who}, Amount: amount, From: from, To: to, Code: code}
}

// bookWords: the words of a site's book.
func bookWords(c api.Config, who int, s api.Site) api.Book {
	fresh, _ := book.New(c, who)
	if s.Up {
		return s.Node.Book
	}
	b, has := store.Has(s.Tape)
	if !has {
		return fresh
	}
	k, is := book.Take(c, who, b)
	if !is {
		return fresh
	}
	return k
}

// truthWords: the words of the truth.
func truthWords(c api.Config, x api.City) int64 {
	if !city.May(c, x) {
		return 0
	}
	var incs, uses int64
	for who := range c.N {
		own := bookWords(c, who, x.Sites[who]).Rows[who]
		incs += own.Inc
		uses += own.Use
	}
	return c.K + incs - uses
}

// script is a config and acts, the city at first, and behind each act, and the marks.
type script struct {
	c      api.Config
	acts   []api.Act
	cities []api.City
	marks  []api.Mark
}

// ran is the script of some acts, each city of which is Run's own, of so many acts.
func ran(t *testing.T, c api.Config, acts []api.Act) script {
	t.Helper()
	s := script{c: c, acts: acts}
	for n := range len(acts) + 1 {
		x, marks, code := city.Run(c, acts[:n])
		if code != api.OK || len(marks) != n {
			t.Fatalf("the test's own acts: %+v, %+v: %d", c, acts, code)
		}
		s.cities, s.marks = append(s.cities, x), marks
	}
	return s
}

// done is the script of some acts, which are done one behind the other.
func done(t *testing.T, c api.Config, acts []api.Act) script {
	t.Helper()
	x, code := city.New(c)
	if code != api.OK || len(acts) > mostActs {
		t.Fatalf("the test's own acts: %+v, %+v: %d", c, acts, code)
	}
	s := script{c: c, acts: acts, cities: []api.City{x}}
	for _, a := range acts {
		var m api.Mark
		x, m = city.Do(c, x, a)
		s.cities, s.marks = append(s.cities, x), append(s.marks, m)
	}
	return s
}

// at is the book of a site behind so many acts.
func (s script) at(who, acts int) api.Book {
	return bookWords(s.c, who, s.cities[acts].Sites[who])
}

// puts: the words of what an act put in.
func (s script) puts(act int) int64 {
	a := s.acts[act]
	if a.Kind != api.DoInc || a.Who < 0 || a.Who >= s.c.N || s.at(a.Who, act+1).Rows[a.Who].Inc <= s.at(a.Who, act).Rows[a.Who].Inc {
		return 0
	}
	return a.Amount
}

// answers: the words of what came of each request.
func (s script) answers() (l []ledger.Answer) {
	for act, a := range s.acts {
		if a.Kind != api.DoDec || a.Who < 0 || a.Who >= s.c.N {
			continue
		}
		clock := s.at(a.Who, act+1).Clock
		if clock == s.at(a.Who, act).Clock {
			continue
		}
		id := api.Stamp{Time: clock, Who: a.Who}
		to, code := s.outcome(id)
		l = append(l, ledger.Answer{Id: id, Amount: a.Amount, From: act, To: to, Code: code})
	}
	return l
}

// outcome: the words of the act behind which an outcome first stood in its site's book, and of what it was.
func (s script) outcome(id api.Stamp) (int, api.Code) {
	for act := range s.acts {
		for _, o := range s.at(id.Who, act+1).Outs {
			if o.Id == id {
				return act, o.Code
			}
		}
	}
	return -1, api.OK
}

// story: the words of a story.
func (s script) story() ledger.Story {
	l := ledger.Story{Answers: s.answers(), Marks: s.marks}
	for _, x := range s.cities {
		l.Values = append(l.Values, truthWords(s.c, x))
	}
	return l
}

// wrong: the words of a story that is fine; what isn't so, nothing where all is.
func (s script) wrong(l ledger.Story) string {
	if slices.Min(l.Values) < 0 {
		return "a Value is below 0"
	}
	for act := range s.acts {
		want := l.Values[act] + s.puts(act)
		for _, a := range l.Answers {
			if a.To == act && a.Code == api.OK {
				want -= a.Amount
			}
		}
		if l.Values[act+1] != want {
			return "a Value isn't what the one ahead and the act come to"
		}
	}
	for _, a := range l.Answers {
		if a.Code == api.Lacking && (a.To <= a.From || slices.Min(l.Values[a.From+1:a.To+1]) >= a.Amount) {
			return "one is refused, and there was no less than it asks for"
		}
	}
	for act, m := range l.Marks {
		for _, o := range m.Outs {
			if !slices.ContainsFunc(l.Answers, func(a ledger.Answer) bool {
				return a.Id == o.Id && a.Code == o.Code && 0 <= a.To && a.To <= act
			}) {
				return "a mark tells what no book had"
			}
		}
	}
	return ""
}

// holdTruth: Truth(c, x) answers this, and x stays as it was.
func holdTruth(t *testing.T, c api.Config, x api.City, want int64) {
	t.Helper()
	was := memory(x)
	if got := ledger.Truth(c, x); got != want {
		t.Errorf("P20.1: Truth(%+v, %+v): %d, want %d", c, x, got, want)
	}
	if !slices.Equal(memory(x), was) {
		t.Errorf("rule 3: Truth(%+v, ..): what came in is %+v now", c, x)
	}
}

// holdTold: Tell(c, acts) answers this, Fine tells that it is fine, and acts stay as they were.
func holdTold(t *testing.T, c api.Config, acts []api.Act, want ledger.Story) {
	t.Helper()
	was := memory(acts)
	got, code := ledger.Tell(c, acts)
	if code != api.OK || !slices.Equal(got.Values, want.Values) {
		t.Errorf("P20.2: Tell(%+v, %+v): Values %v, %d, want %v", c, acts, got.Values, code, want.Values)
	}
	if !slices.Equal(got.Answers, want.Answers) {
		t.Errorf("P20.2: Tell(%+v, %+v): Answers %+v, want %+v", c, acts, got.Answers, want.Answers)
	}
	if !same(got.Marks, want.Marks) {
		t.Errorf("P20.2: Tell(%+v, %+v): Marks %+v, want %+v", c, acts, got.Marks, want.Marks)
	}
	if !ledger.Fine(c, acts) {
		t.Errorf("P20.3, P20.4: Fine(%+v, %+v): false", c, acts)
	}
	if !slices.Equal(memory(acts), was) {
		t.Errorf("rule 3: Tell, Fine(%+v, ..): the acts that came in are %+v now", c, acts)
	}
}

// holdStory: the story of some acts has these Values and Answers, and Run's marks, it is what the words say, and it is fine; it answers the marks.
func holdStory(t *testing.T, c api.Config, acts []api.Act, values []int64, answers ...ledger.Answer) []api.Mark {
	t.Helper()
	s := ran(t, c, acts)
	holdTold(t, c, acts, ledger.Story{Values: values, Answers: answers, Marks: s.marks})
	l := s.story()
	if !slices.Equal(l.Values, values) || !slices.Equal(l.Answers, answers) {
		t.Errorf("the test's own words: %+v, %+v: %+v", c, acts, l)
	}
	if wrong := s.wrong(l); wrong != "" {
		t.Errorf("P20.4: %+v, %+v: %s: %+v", c, acts, wrong, l)
	}
	holdTruth(t, c, s.cities[len(acts)], values[len(acts)])
	return s.marks
}

// holdNone: there is no story.
func holdNone(t *testing.T, c api.Config, acts []api.Act) {
	t.Helper()
	if l, code := ledger.Tell(c, acts); code != api.Arg || !same(l, ledger.Story{}) {
		t.Errorf("P20.2: Tell(%+v, %d acts): %+v, %d, want none, %d", c, len(acts), l, code, api.Arg)
	}
	if ledger.Fine(c, acts) {
		t.Errorf("P20.3: Fine(%+v, %d acts): true", c, len(acts))
	}
}
