package city_test

import (
	"bytes"
	"math"
	"math/rand"
	"slices"
	"testing"

	"coffers/api"
	"coffers/book"
	"coffers/city"
	"coffers/frame"
	"coffers/store"
)

// drawnConfig is one that may be, mostly of few replicas.
func drawnConfig(draw *rand.Rand) api.Config {
	c := api.Config{N: 1 + draw.Intn(4), Q: 1 + draw.Intn(3), R: draw.Intn(3), P: 1 + draw.Intn(3), K: draw.Int63n(60), C: draw.Int63n(20)}
	if draw.Intn(20) == 0 {
		c.N, c.Q, c.R, c.P = 1+draw.Intn(16), 1+draw.Intn(8), draw.Intn(9), 1+draw.Intn(16)
	}
	return c
}

// drawnKind is one of an act, at times one that there isn't.
func drawnKind(draw *rand.Rand) int {
	switch k := draw.Intn(40); {
	case k == 0:
		return []int{0, 10, -1, math.MinInt, math.MaxInt}[draw.Intn(5)]
	case k < 8:
		return api.DoDec
	case k < 16:
		return api.DoTick
	case k < 26:
		return api.DoDeliver
	case k < 30:
		return api.DoRestart
	}
	return 1 + draw.Intn(9)
}

// drawnAct is an act, mostly one that does something.
func drawnAct(draw *rand.Rand, c api.Config) api.Act {
	a := api.Act{Kind: drawnKind(draw), Who: draw.Intn(c.N), Amount: draw.Int63n(12), Draw: draw.Uint32(), At: draw.Intn(30)}
	if draw.Intn(4) == 0 {
		a.Amount = 1 + draw.Int63n(c.K+2*c.C+2)
	}
	if draw.Intn(30) == 0 {
		a.Who = farWhos(c.N)[draw.Intn(12)]
	}
	if draw.Intn(20) == 0 {
		a.At = []int{-1, math.MinInt, 399, 400, math.MaxInt}[draw.Intn(5)]
	}
	switch draw.Intn(8) {
	case 0:
		a.Fault = faults[draw.Intn(len(faults))]
	case 1:
		a.Fault = 2
	}
	a.Keep = []int{draw.Intn(300) - 20, 0, math.MinInt, math.MaxInt}[max(0, draw.Intn(8)-4)]
	return a
}

// changed is a city that may be, still, in which something is another one.
func changed(t *testing.T, draw *rand.Rand, c api.Config, x api.City) api.City {
	x = copied(x)
	who := draw.Intn(c.N)
	s := &x.Sites[who]
	switch draw.Intn(7) {
	case 0:
		if s.Up {
			s.Node.Book.Clock = mostTime - int64(draw.Intn(3*c.N))
		}
	case 1:
		if s.Up {
			s.Node.Wake.Ticks = mostTime - int64(draw.Intn(2))
		}
	case 2:
		if s.Up {
			s.Node.Wake.Next = s.Node.Wake.Ticks + int64(draw.Intn(17))
		}
	case 3:
		if s.Up {
			return crowded(t, c, x, who, draw.Intn(200))
		}
	case 4:
		s.Tape.Main.Sure = framed([]byte("none"), make([]byte, draw.Intn(9)))
	case 5:
		s.Tape = api.Tape{}
	case 6:
		if c.N > 1 {
			x.Mail = letters(c, mostMail-draw.Intn(2))
		}
	}
	return x
}

// drawnCity is a city that may be, behind some acts.
func drawnCity(t *testing.T, draw *rand.Rand, c api.Config, acts int) api.City {
	x := started(t, c)
	for range acts {
		x, _ = city.Do(c, x, drawnAct(draw, c))
	}
	return x
}

// TestByWords: P19.1, P19.2 and P19.4, drawn cities that may be, by all that befalls them; they stay so.
func TestByWords(t *testing.T) {
	draw := rand.New(rand.NewSource(191))
	some := map[[2]int]int{}
	for range 700 {
		c := drawnConfig(draw)
		x := drawnCity(t, draw, c, draw.Intn(40))
		if draw.Intn(2) == 0 {
			x = changed(t, draw, c, x)
		}
		for range 12 {
			if !mayWords(c, x) {
				t.Fatalf("P19.4: may not be, by %+v: %+v", c, x)
			}
			holdMay(t, c, x, true)
			var m api.Mark
			x, m = holdWords(t, c, x, drawnAct(draw, c))
			some[[2]int{m.Kind, int(m.Code)}]++
		}
	}
	for _, k := range []struct {
		kind int
		code api.Code
		n    int
	}{
		{api.DoInc, api.OK, 30}, {api.DoInc, api.Full, 10}, {api.DoInc, api.Down, 50}, {api.DoInc, api.Unavailable, 1}, {api.DoDec, api.OK, 300}, {api.DoDec, api.Busy, 50},
		{api.DoDec, api.Unavailable, 5}, {api.DoDec, api.Down, 100}, {api.DoDec, api.Range, 3}, {api.DoTick, api.OK, 300}, {api.DoTick, api.Range, 10}, {api.DoTick, api.Unavailable, 5},
		{api.DoDeliver, api.OK, 200}, {api.DoDeliver, api.Down, 100}, {api.DoDeliver, api.None, 50}, {api.DoDeliver, api.Arg, 10}, {api.DoDrop, api.OK, 50}, {api.DoTwice, api.OK, 50},
		{api.DoTwice, api.Range, 2}, {api.DoCrash, api.OK, 50}, {api.DoRestart, api.OK, 100}, {api.DoRestart, api.Form, 5}, {api.DoRestart, api.Arg, 100},
	} {
		if n := some[[2]int{k.kind, int(k.code)}]; n < k.n {
			t.Errorf("too few of a kind were tried: kind %d, code %d: %d", k.kind, k.code, n)
		}
	}
}

// spoilt is a city in which something is another one, so that most may not be.
func spoilt(draw *rand.Rand, c api.Config, x api.City) api.City {
	x = copied(x)
	s := &x.Sites[draw.Intn(c.N)]
	v := []int64{-1, 0, 1, 2, 9, 17, 400, mostTime, mostTime + 1, math.MinInt64, math.MaxInt64}[draw.Intn(11)]
	lists := []*[]byte{&s.Tape.Main.Sure, &s.Tape.Main.Loose, &s.Tape.Spare.Sure, &s.Tape.Spare.Loose}
	switch l := lists[draw.Intn(4)]; draw.Intn(10) {
	case 0:
		x.Sites = x.Sites[:draw.Intn(c.N+1)]
	case 1:
		x.Sites = append(x.Sites, api.Site{})
	case 2:
		s.Up = !s.Up
	case 3:
		s.Node.Book.Clock = v
	case 4:
		s.Node.Wake.Ticks = v
	case 5:
		s.Node.Book.Asks = int(v)
	case 6:
		*l = append(*l, byte(v))
	case 7:
		*l = (*l)[:draw.Intn(len(*l)+1)]
	case 8:
		x.Mail = append(x.Mail, letter(c, draw.Intn(c.N), draw.Intn(c.N), v))
	case 9:
		x.Mail = append(letters(c, 390), letters(c, draw.Intn(20))...)
	}
	return x
}

// TestAnyCities: P19.1, P19.2, drawn cities of which something is another one: whether they may be, and what befalls them.
func TestAnyCities(t *testing.T) {
	draw := rand.New(rand.NewSource(192))
	some := map[bool]int{}
	for range 1500 {
		c := drawnConfig(draw)
		x := spoilt(draw, c, drawnCity(t, draw, c, draw.Intn(20)))
		if draw.Intn(10) == 0 {
			c = drawnConfig(draw)
		}
		may := mayWords(c, x)
		some[may]++
		holdMay(t, c, x, may)
		holdWords(t, c, x, drawnAct(draw, c))
	}
	if some[true] < 300 || some[false] < 700 {
		t.Errorf("too few of a kind were tried: %v", some)
	}
}

// script is a city, and what is known of it by what was told: of each site the book behind its last step that was saved, and of each request its outcome.
type script struct {
	c     api.Config
	x     api.City
	saved []api.Book
	told  map[api.Stamp]api.Code
	again int
	torn  int
}

// step is an act more, held against P19.4.
func (s *script) step(t *testing.T, a api.Act) {
	t.Helper()
	was := s.x
	x, m := city.Do(s.c, was, a)
	s.x = x
	if !city.May(s.c, x) {
		t.Fatalf("P19.4: behind %+v, by %+v, may not be: %+v", a, s.c, x)
	}
	for _, o := range m.Outs {
		if code, ok := s.told[o.Id]; ok && code != o.Code || o.Id.Who != m.Who {
			t.Errorf("P19.4: %+v told %+v; it was %d", a, o, code)
		}
		s.told[o.Id] = o.Code
	}
	for who := range x.Sites {
		s.site(t, was, a, m, who)
	}
	switch m.Code {
	case api.OK, api.Down, api.Unavailable, api.Lacking, api.Range:
	default:
		if !same(x, was) {
			t.Errorf("P19.2: %+v told %+v, and something happened: %+v, %+v", a, m, was, x)
		}
	}
}

// site holds that a site has, or will have when it is restarted, the book that it had behind its last step that was saved.
func (s *script) site(t *testing.T, was api.City, a api.Act, m api.Mark, who int) {
	t.Helper()
	site := s.x.Sites[who]
	if who != m.Who && !same(site, was.Sites[who]) {
		t.Errorf("P19.2: %+v told %+v, and changed the site %d: %+v", a, m, who, site)
	}
	if who == m.Who && site.Up && was.Sites[who].Up {
		s.saved[who] = site.Node.Book
	}
	if who == m.Who && !site.Up && was.Sites[who].Up && a.Kind != api.DoCrash {
		s.tears(was, a, who)
	}
	if site.Up && !same(site.Node.Book, s.saved[who]) {
		t.Errorf("P19.4: behind %+v, %+v the site %d has %+v, want %+v", a, m, who, site.Node.Book, s.saved[who])
	}
	if a.Kind == api.DoRestart && who == m.Who && m.Code == api.OK {
		s.again += len(m.Outs)
		if !same(site.Node, api.Node{Book: s.saved[who]}) || !slices.Equal(m.Outs, s.saved[who].Outs) {
			t.Errorf("P19.4: restarted: %+v, %+v, want %+v", m, site.Node, s.saved[who])
		}
	}
	k, _ := book.New(s.c, who)
	b, ok := store.Has(site.Tape)
	if ok {
		k, _ = book.Take(s.c, who, b)
	}
	if !same(k, s.saved[who]) {
		t.Errorf("P19.4: behind %+v, %+v the tape of %d has %v, want %+v", a, m, who, b, s.saved[who])
	}
	if len(site.Tape.Main.Sure) > book.Bound(s.c) {
		t.Errorf("P19.4: behind %+v the tape of %d has %d bytes", a, who, len(site.Tape.Main.Sure))
	}
}

// tears is when the power went while a book was saved: that one is known from now on, if all of it was kept, and it didn't begin the tape anew.
func (s *script) tears(was api.City, a api.Act, who int) {
	a.Fault = 0
	would, _ := city.Do(s.c, was, a)
	k := would.Sites[who].Node.Book
	size := frame.Size(len(book.Put(k)))
	if a.Keep >= size && len(was.Sites[who].Tape.Main.Sure)+size <= book.Bound(s.c) {
		s.saved[who] = k
		s.torn++
	}
}

// TestScripts: P19.4, drawn scripts: a city that may be stays so, every tape is within the bound, who is restarted has the book that it had behind its last step that was saved, or, torn with all kept, the one that was being saved, and tells again what it told; no request is told two outcomes.
func TestScripts(t *testing.T) {
	draw := rand.New(rand.NewSource(193))
	again, torn, told, anew := 0, 0, 0, 0
	for range 60 {
		c := drawnConfig(draw)
		c.N = min(c.N, 6)
		s := script{c: c, x: started(t, c), told: map[api.Stamp]api.Code{}}
		for _, site := range s.x.Sites {
			s.saved = append(s.saved, site.Node.Book)
		}
		var acts []api.Act
		for range mostActs {
			a := drawnAct(draw, c)
			was := s.x
			s.step(t, a)
			for who, site := range was.Sites {
				if !bytes.HasPrefix(s.x.Sites[who].Tape.Main.Sure, site.Tape.Main.Sure) {
					anew++
				}
			}
			acts = append(acts, a)
		}
		if x, marks, code := city.Run(c, acts); !same(x, s.x) || len(marks) != mostActs || code != api.OK {
			t.Errorf("P19.3: Run: %+v, %d, want %+v", x, code, s.x)
		}
		again, torn, told = again+s.again, torn+s.torn, told+len(s.told)
	}
	if again < 50 || torn < 100 || told < 400 || anew < 100 {
		t.Errorf("too few of a kind were tried: told again %d, torn with all kept %d, told %d, begun anew %d", again, torn, told, anew)
	}
}

// crowd is a city in which all lists have something: who waits, what is told, an audit, messages; and a site has no power.
func crowd(t *testing.T, c api.Config) api.City {
	x := behind(t, c, started(t, c),
		api.Act{Kind: api.DoDec, Who: 1, Amount: 4},
		api.Act{Kind: api.DoDec, Who: 1, Amount: 500},
		api.Act{Kind: api.DoTick, Who: 1},
		api.Act{Kind: api.DoDec, Amount: 3},
		api.Act{Kind: api.DoDec, Amount: 600},
		api.Act{Kind: api.DoTick},
		api.Act{Kind: api.DoTick},
		api.Act{Kind: api.DoTwice},
	)
	last := c.N - 1
	x = behind(t, c, x, api.Act{Kind: api.DoDec, Who: last, Amount: 2}, api.Act{Kind: api.DoCrash, Who: last})
	if k := x.Sites[0].Node.Book; len(k.Line) == 0 || len(k.Audit.Told) == 0 || len(x.Mail) < 5 {
		t.Fatalf("the test's own city: %+v", x)
	}
	return x
}

// everything are acts of each kind, with each code of some, of a crowd.
func everything(c api.Config) (list []api.Act) {
	for kind := 0; kind <= 10; kind++ {
		for _, who := range []int{-1, 0, 1, c.N - 1} {
			for _, amount := range []int64{0, 1, 2, 500} {
				list = append(list, api.Act{Kind: kind, Who: who, Amount: amount, At: int(amount) + who})
				list = append(list, api.Act{Kind: kind, Who: who, Amount: amount, At: int(amount), Fault: 1 + int(amount%2), Keep: int(amount)})
			}
		}
	}
	return list
}

// TestStays: rules 3 and 4, cities that came in stay as they were, their spare room too; what was answered has memory of its own: it doesn't change with them, nor with other answers, and no two of its lists share memory.
func TestStays(t *testing.T) {
	for _, n := range []int{3, 4} {
		c := config(n)
		whole := crowd(t, c)
		for _, of := range []api.City{whole, with(whole, func(x *api.City) { x.Sites[0].Node.Wake.Ticks = -1 }), posted(whole, nil), posted(whole, letters(c, 400))} {
			for _, a := range everything(c) {
				if len(of.Mail) > 100 && a.Amount == 500 {
					continue
				}
				x := roomy(of, 3)
				was := memory(x)
				want, mark := city.Do(c, x, a)
				first, told := copied(want), copied(mark)
				if !apart(x, want, mark) {
					t.Fatalf("rule 7: Do(.., %+v): lists share memory: %+v, %+v", a, want, mark)
				}
				again, m := city.Do(c, x, a)
				if !same(again, want) || !same(m, mark) {
					t.Fatalf("rule 4: Do(.., %+v): %+v, %+v, want %+v, %+v", a, again, m, want, mark)
				}
				spoil(again)
				spoil(m)
				if !slices.Equal(memory(x), was) {
					t.Fatalf("rule 3: Do(.., %+v): what came in is %+v now", a, x)
				}
				spoil(x)
				if !same(want, first) || !same(mark, told) {
					t.Fatalf("rule 3: Do(.., %+v): it was %+v, and is %+v now", a, first, want)
				}
			}
		}
	}
}

// TestRunStays: rules 3 and 4, of Run, of New and of May: the acts and cities that came in stay as they were, their spare room too; no two lists that are answered share memory.
func TestRunStays(t *testing.T) {
	draw := rand.New(rand.NewSource(194))
	for range 20 {
		c := drawnConfig(draw)
		var acts []api.Act
		for range draw.Intn(200) {
			acts = append(acts, drawnAct(draw, c))
		}
		acts = roomy(acts, 3)
		was := memory(acts)
		x, marks, _ := city.Run(c, acts)
		first, told := copied(x), copied(marks)
		if !apart(acts, x, marks) {
			t.Fatalf("rule 7: Run: lists share memory: %+v, %+v", x, marks)
		}
		again, m, _ := city.Run(c, acts)
		if !same(again, x) || !same(m, marks) {
			t.Fatalf("rule 4: Run: %+v, %+v, want %+v, %+v", again, m, x, marks)
		}
		spoil(again)
		spoil(m)
		if !slices.Equal(memory(acts), was) {
			t.Fatalf("rule 3: Run: the acts that came in are %+v now", acts)
		}
		spoil(acts)
		if !same(x, first) || !same(marks, told) {
			t.Fatalf("rule 3: Run: it was %+v, %+v, and is %+v, %+v now", first, told, x, marks)
		}
		x = roomy(x, 3)
		was = memory(x)
		if holdMay(t, c, x, true); !slices.Equal(memory(x), was) {
			t.Fatalf("rule 3: May: what came in is %+v now", x)
		}
		one, two := started(t, c), started(t, c)
		if first = copied(one); !apart(one, two) {
			t.Fatalf("rule 7: New: lists share memory: %+v", one)
		}
		if spoil(two); !same(one, first) {
			t.Fatalf("rule 3: New: %+v, want %+v", one, first)
		}
	}
}
