package ledger_test

import (
	"math"
	"math/rand"
	"slices"
	"testing"

	"coffers/api"
	"coffers/city"
	"coffers/ledger"
)

// drawnConfig is one that may be, mostly of few replicas.
func drawnConfig(draw *rand.Rand) api.Config {
	c := api.Config{N: 1 + draw.Intn(4), Q: 1 + draw.Intn(3), R: draw.Intn(2), P: 1 + draw.Intn(2), K: draw.Int63n(40), C: draw.Int63n(200)}
	if draw.Intn(40) == 0 {
		c.N, c.Q, c.R, c.P = 1+draw.Intn(16), 1+draw.Intn(8), draw.Intn(9), 1+draw.Intn(16)
	}
	return c
}

// drawnKind is one of an act: in a calm script time goes by and messages come, mostly, in a wild one anything may befall.
func drawnKind(draw *rand.Rand, wild bool) int {
	k := draw.Intn(100)
	switch {
	case wild && k < 3:
		return []int{0, 10, -1, math.MinInt, math.MaxInt}[draw.Intn(5)]
	case wild && k < 40:
		return 1 + draw.Intn(9)
	case k < 25:
		return api.DoInc
	case k < 60:
		return api.DoDec
	case k < 65:
		return api.DoTick
	case k < 72:
		return []int{api.DoDrop, api.DoTwice, api.DoCrash}[draw.Intn(3)]
	case k < 90:
		return api.DoRestart
	}
	return api.DoDeliver
}

// drawnAct is an act, mostly one that does something.
func drawnAct(draw *rand.Rand, c api.Config, wild bool) api.Act {
	a := api.Act{Kind: drawnKind(draw, wild), Who: draw.Intn(c.N), Amount: draw.Int63n(12), Draw: draw.Uint32()}
	if draw.Intn(6) == 0 {
		a.Amount = 1 + draw.Int63n(c.K+c.C+2)
	}
	if wild && draw.Intn(20) == 0 {
		a.Who = farWhos(c.N)[draw.Intn(12)]
	}
	switch draw.Intn(6) {
	case 0:
		a.At = draw.Intn(30)
	case 1:
		if wild {
			a.At = []int{-1, math.MinInt, 399, 400, math.MaxInt}[draw.Intn(5)]
		}
	}
	if f := draw.Intn(100); f < 4 || wild && f < 20 {
		a.Fault = []int{1, 2, 2, 2, 3, -1}[draw.Intn(6)]
		a.Keep = []int{0, draw.Intn(200) - 10, whole, whole}[draw.Intn(4)]
	}
	return a
}

// drawnActs are so many acts: any ones, or mostly such that all tick and hear, round by round.
func drawnActs(draw *rand.Rand, c api.Config, n int) (l []api.Act) {
	wild := draw.Intn(4) == 0
	for len(l) < n {
		if wild {
			l = append(l, drawnAct(draw, c, true))
		} else {
			l = append(l, drawnRound(draw, c, 8)...)
		}
	}
	return l[:n]
}

// drawnRound are acts by which all tick, and as many messages come as that writes; between them, at one of so many places, something else befalls.
func drawnRound(draw *rand.Rand, c api.Config, rare int) (l []api.Act) {
	add := func(a api.Act) {
		if draw.Intn(rare) == 0 {
			l = append(l, drawnAct(draw, c, false))
		}
		if draw.Intn(5*rare) == 0 {
			a.Fault, a.Keep = 1+draw.Intn(2), []int{0, 20, whole}[draw.Intn(3)]
			l = append(l, a, restart(draw.Intn(c.N)))
			return
		}
		l = append(l, a)
	}
	for who := range c.N {
		add(tick(who))
	}
	for range c.N * (c.N - 1) {
		a := deliver(0)
		if draw.Intn(4) == 0 {
			a.At = draw.Intn(20)
		}
		add(a)
	}
	return l
}

// hold holds a script against the words of its story, and of one that is fine.
func (s script) hold(t *testing.T) ledger.Story {
	t.Helper()
	l := s.story()
	holdTold(t, s.c, s.acts, l)
	if wrong := s.wrong(l); wrong != "" {
		t.Errorf("P20.4: %+v, %+v: %s: %+v", s.c, s.acts, wrong, l)
	}
	return l
}

// TestTruths: P20.1, P20.2, drawn scripts: each Value is the truth of Run's own city behind so many acts, and the marks are those of Run.
func TestTruths(t *testing.T) {
	draw := rand.New(rand.NewSource(201))
	for range 60 {
		c := drawnConfig(draw)
		s := ran(t, c, drawnActs(draw, c, draw.Intn(60)))
		l := s.hold(t)
		for n, x := range s.cities {
			holdTruth(t, c, x, l.Values[n])
		}
	}
}

// TestBeginnings: P20.2, drawn scripts: the story of the first acts is the beginning of the story of all; what isn't answered there yet has no outcome.
func TestBeginnings(t *testing.T) {
	draw := rand.New(rand.NewSource(202))
	open := 0
	for range 40 {
		c := drawnConfig(draw)
		acts := drawnActs(draw, c, 1+draw.Intn(80))
		all, _ := ledger.Tell(c, acts)
		for n := range acts {
			var want []ledger.Answer
			for _, a := range all.Answers {
				if a.From >= n {
					break
				}
				if a.To >= n {
					a.To, a.Code = -1, api.OK
					open++
				}
				want = append(want, a)
			}
			holdTold(t, c, acts[:n], ledger.Story{Values: all.Values[:n+1], Answers: want, Marks: all.Marks[:n]})
		}
	}
	if open < 150 {
		t.Errorf("too few of a kind were tried: %d wait still", open)
	}
}

// kinds are how many of some kinds the answers of drawn scripts were.
type kinds struct{ once, later, never, lacking, shared, dark, again int }

// count is how many of which kind there are in one more script.
func (k *kinds) count(s script, l ledger.Story) {
	told := map[api.Stamp]int{}
	for _, m := range l.Marks {
		for _, o := range m.Outs {
			told[o.Id]++
		}
	}
	behind := map[int]int{}
	for _, a := range l.Answers {
		if a.To < 0 {
			k.never++
			continue
		}
		behind[a.To]++
		if behind[a.To] == 2 {
			k.shared++
		}
		if a.To == a.From {
			k.once++
		} else {
			k.later++
		}
		if a.Code == api.Lacking && s.c.N > 1 {
			k.lacking++
		}
		if !s.cities[a.To+1].Sites[a.Id.Who].Up {
			k.dark++
		}
		if told[a.Id] > 1 {
			k.again++
		}
	}
}

// TestStories: P20.2, P20.3, P20.4, drawn scripts, calm and wild: their stories are what the words say, and fine.
func TestStories(t *testing.T) {
	draw := rand.New(rand.NewSource(203))
	var k kinds
	for range 200 {
		c := drawnConfig(draw)
		s := done(t, c, drawnActs(draw, c, 200+draw.Intn(201)))
		k.count(s, s.hold(t))
	}
	if k.once < 300 || k.later < 300 || k.never < 200 || k.lacking < 50 || k.shared < 25 || k.dark < 15 || k.again < 35 {
		t.Errorf("too few of a kind were tried: %+v", k)
	}
}

// TestRefused: P20.4, of two and more replicas, one of which asks for more than there is, while others put in, and use up: whoever is refused saw a moment at which there was less, at the latest ahead of the act behind which that is told.
func TestRefused(t *testing.T) {
	draw := rand.New(rand.NewSource(204))
	some, late := 0, 0
	for range 150 {
		c := api.Config{N: 2 + draw.Intn(3), Q: 2, R: draw.Intn(2), P: 1, K: draw.Int63n(20), C: 30}
		acts := []api.Act{dec(0, c.K+1+draw.Int63n(4))}
		for range 5 {
			acts = append(acts, drawnRound(draw, c, 40)...)
		}
		acts = slices.Insert(acts, len(acts)/2+draw.Intn(len(acts)/2), inc(1+draw.Intn(c.N-1), 1+draw.Int63n(9)))
		s := done(t, c, acts)
		l := s.hold(t)
		for _, a := range l.Answers {
			if a.Code != api.Lacking {
				continue
			}
			some++
			if l.Values[a.To] >= a.Amount {
				late++
			}
			if a.From >= a.To || slices.Min(l.Values[a.From+1:a.To+1]) >= a.Amount {
				t.Errorf("P20.4: %+v, %+v: %+v, %v", c, acts, a, l.Values)
			}
		}
	}
	if some < 50 || late < 15 {
		t.Errorf("too few of a kind were tried: %d refused, at %d there was enough again", some, late)
	}
}

// TestNoStory: P20.3, Fine tells false where there is no story, however well the acts would go by another config, or fewer of them.
func TestNoStory(t *testing.T) {
	draw := rand.New(rand.NewSource(205))
	for _, c := range wrongConfigs() {
		holdNone(t, c, drawnActs(draw, config(2), 20))
	}
	for _, n := range sizes {
		c := config(n)
		acts := drawnActs(draw, c, mostActs+1)
		holdNone(t, c, acts)
		done(t, c, acts[:mostActs]).hold(t)
	}
}

// TestStays: rules 3, 4 and 7, the acts and cities that came in stay as they were, their spare room too; what was answered has memory of its own: it doesn't change with them, nor with other answers, and no two of its lists share memory.
func TestStays(t *testing.T) {
	draw := rand.New(rand.NewSource(206))
	for range 30 {
		c := drawnConfig(draw)
		acts := roomy(drawnActs(draw, c, draw.Intn(200)), 3)
		was := memory(acts)
		l, code := ledger.Tell(c, acts)
		first := copied(l)
		if code != api.OK || !apart(acts, l.Values, l.Answers, l.Marks) {
			t.Fatalf("rule 7: Tell: lists share memory: %+v", l)
		}
		again, _ := ledger.Tell(c, acts)
		if fine := ledger.Fine(c, acts); !fine || !same(again, l) {
			t.Fatalf("rule 4: Tell, Fine: %+v, %t, want %+v", again, fine, l)
		}
		spoil(again)
		if !slices.Equal(memory(acts), was) {
			t.Fatalf("rule 3: the acts that came in are %+v now", acts)
		}
		x, _, _ := city.Run(c, acts)
		x = roomy(x, 3)
		seen := memory(x)
		if want := l.Values[len(acts)]; ledger.Truth(c, x) != want || ledger.Truth(c, x) != want {
			t.Fatalf("P20.1, rule 4: Truth: %d, want %d", ledger.Truth(c, x), want)
		}
		if !slices.Equal(memory(x), seen) {
			t.Fatalf("rule 3: the city that came in is %+v now", x)
		}
		spoil(acts)
		spoil(x)
		if !same(l, first) {
			t.Fatalf("rule 3: it was %+v, and is %+v now", first, l)
		}
	}
}
