package tape_test

import (
	"bytes"
	"math"
	"math/rand"
	"slices"
	"strconv"
	"strings"
	"testing"

	"coffers/api"
	"coffers/tape"
)

// whole is as many bytes as a tape may have.
const whole = 65536

// ends are numbers n and keep as small and as great as can be, and about 0.
var ends = []int{math.MinInt, math.MinInt + 1, math.MinInt32, -whole, -3, -2, -1, 0, 1, 2, 3, whole, math.MaxInt32, math.MaxInt - 1, math.MaxInt}

// from is a tape as text tells it: Sure, | and Loose of Main, a comma, and these of Spare.
func from(text string) api.Tape {
	main, spare, _ := strings.Cut(text, ",")
	part := func(text string) api.Area {
		sure, loose, _ := strings.Cut(text, "|")
		return api.Area{Sure: []byte(sure), Loose: []byte(loose)}
	}
	return api.Tape{Main: part(main), Spare: part(spare)}
}

// shown is a tape as text, or how many bytes its lists have, where these are many.
func shown(t api.Tape) string {
	var out strings.Builder
	for i, l := range lists(&t) {
		out.WriteString([]string{"", "|", ",", "|"}[i])
		out.Write((*l)[:min(len(*l), 40)])
		if len(*l) > 40 {
			out.WriteString(" ..")
		}
	}
	return strconv.Quote(out.String())
}

// lists are the four of a tape.
func lists(t *api.Tape) []*[]byte {
	return []*[]byte{&t.Main.Sure, &t.Main.Loose, &t.Spare.Sure, &t.Spare.Loose}
}

// same: are two tapes alike, list by list?
func same(a, b api.Tape) bool {
	other := lists(&b)
	for i, l := range lists(&a) {
		if !bytes.Equal(*l, *other[i]) {
			return false
		}
	}
	return true
}

// copied is the same tape, with lists of its own.
func copied(t api.Tape) api.Tape {
	for _, l := range lists(&t) {
		*l = slices.Clone(*l)
	}
	return t
}

// roomy are the same bytes, in memory that has room behind them, all of it '#'.
func roomy(b []byte, room int) []byte {
	all := bytes.Repeat([]byte{'#'}, len(b)+room)
	copy(all, b)
	return all[:len(b):len(all)]
}

// withRoom is the same tape, with room behind each list.
func withRoom(t api.Tape) api.Tape {
	for i, l := range lists(&t) {
		*l = roomy(*l, 100+i)
	}
	return t
}

// inRow is the same tape, its lists one behind the other in the same memory, so that the room behind each is the next one, and at last '#'.
func inRow(t api.Tape) api.Tape {
	var all []byte
	for _, l := range lists(&t) {
		all = append(all, *l...)
	}
	all = roomy(all, 100)
	for _, l := range lists(&t) {
		n := len(*l)
		*l, all = all[:n], all[n:]
	}
	return t
}

// rooms are a tape's bytes and what stands in the room behind them, in memory of their own.
func rooms(t api.Tape) [][]byte {
	var out [][]byte
	for _, l := range lists(&t) {
		out = append(out, slices.Clone((*l)[:cap(*l)]))
	}
	return out
}

// cell is a byte on a stand-in disk by the chapter's words, and whether it lasts.
type cell struct {
	b     byte
	lasts bool
}

// disk is a tape as the chapter's words have it: the cells that count, and spare ones.
type disk [2][]cell

// diskOf is the disk that a tape is.
func diskOf(t api.Tape) (d disk) {
	for i, a := range []api.Area{t.Main, t.Spare} {
		for _, b := range a.Sure {
			d[i] = append(d[i], cell{b, true})
		}
		for _, b := range a.Loose {
			d[i] = append(d[i], cell{b, false})
		}
	}
	return d
}

// tape is the tape that a disk is.
func (d disk) tape() (t api.Tape) {
	all := lists(&t)
	for i, cells := range d {
		for _, c := range cells {
			at := all[2*i]
			if !c.lasts {
				at = all[2*i+1]
			}
			*at = append(*at, c.b)
		}
	}
	return t
}

// place is that of Main, or of Spare.
func place(spare bool) int {
	if spare {
		return 1
	}
	return 0
}

// written, synced, turned, wiped, cut and lost are disks by the chapter's words, cell by cell.
func (d disk) written(spare bool, b []byte) disk {
	for _, x := range b {
		d[place(spare)] = append(d[place(spare)], cell{x, false})
	}
	return d
}

func (d disk) synced(spare bool) disk {
	for i := range d[place(spare)] {
		d[place(spare)][i].lasts = true
	}
	return d
}

func (d disk) turned() disk { return disk{d[1], nil} }

func (d disk) wiped() disk { return disk{d[0], nil} }

func (d disk) cut(n int) disk {
	var left []cell
	for i, c := range d[0] {
		if i < n {
			left = append(left, c)
		}
	}
	return disk{left, d[1]}
}

func (d disk) lost(keep int) (out disk) {
	for i, cells := range d {
		loose := 0
		for _, c := range cells {
			if c.lasts || loose < keep {
				out[i] = append(out[i], cell{c.b, true})
			}
			if !c.lasts {
				loose++
			}
		}
	}
	return out
}

// hold: a call answered this tape.
func hold(t *testing.T, call string, got, want api.Tape) {
	t.Helper()
	if !same(got, want) {
		t.Errorf("%s: %s, want %s", call, shown(got), shown(want))
	}
}

// holdWrite: Write answers this tape and this code, and nothing of what it is handed changes.
func holdWrite(t *testing.T, call string, x api.Tape, spare bool, b []byte, want api.Tape, code api.Code) {
	t.Helper()
	was, wasB := rooms(x), slices.Clone(b[:cap(b)])
	got, c := tape.Write(x, spare, b)
	if c != code || !same(got, want) {
		t.Errorf("%s: %s, %d, want %s, %d", call, shown(got), c, shown(want), code)
	}
	if !slices.EqualFunc(rooms(x), was, bytes.Equal) || !bytes.Equal(b[:cap(b)], wasB) {
		t.Errorf("%s: what was handed in is %s now", call, shown(x))
	}
}

// spread are tapes of n bytes in all, these laid on the four lists in each way: on each one alone, on each two, three, and on all; most of them on each in turn.
func spread(n int) []api.Tape {
	var out []api.Tape
	for ways := range 16 {
		for most := range 4 {
			var t api.Tape
			left := n
			for i, l := range lists(&t) {
				if ways>>i&1 == 1 && i != most && left > 0 {
					*l, left = bytes.Repeat([]byte{byte('a' + i)}, 1+i), left-1-i
				}
			}
			if ways>>most&1 == 1 && left >= 0 {
				*lists(&t)[most] = bytes.Repeat([]byte{byte('A' + most)}, left)
				out = append(out, t)
			}
		}
	}
	quarter := n / 4
	even := api.Tape{Main: api.Area{Sure: make([]byte, quarter), Loose: make([]byte, quarter)}, Spare: api.Area{Sure: make([]byte, quarter), Loose: make([]byte, n-3*quarter)}}
	return append(out, even)
}

// some are tapes of all kinds: without anything, with each choice of lists that have something, and drawn ones.
func some(draw *rand.Rand, n int) []api.Tape {
	out := []api.Tape{{}, from("|,|")}
	for ways := range 16 {
		x := from("abc|defg,hi|jklmn")
		for i, l := range lists(&x) {
			if ways>>i&1 == 0 {
				*l = nil
			}
		}
		out = append(out, x)
	}
	for range n {
		var x api.Tape
		for _, l := range lists(&x) {
			*l = make([]byte, draw.Intn(7)*draw.Intn(2))
			draw.Read(*l)
		}
		out = append(out, x)
	}
	return out
}

// about are the numbers about which something changes for a tape: the ends, and about each count of its bytes.
func about(x api.Tape) []int {
	out := slices.Clone(ends)
	for _, a := range []api.Area{x.Main, x.Spare} {
		for _, n := range []int{len(a.Sure), len(a.Loose), len(a.Sure) + len(a.Loose)} {
			out = append(out, n-1, n, n+1)
		}
	}
	return out
}

// TestMay: P7.1, a tape may be that has at most 65536 bytes in all, on whichever lists they are.
func TestMay(t *testing.T) {
	for n, want := range map[int]bool{4: true, 10: true, 100: true, whole - 1: true, whole: true, whole + 1: false, whole + 2: false, 2 * whole: false, 4 * whole: false} {
		for _, x := range spread(n) {
			if tape.May(x) != want || tape.May(withRoom(x)) != want {
				t.Errorf("P7.1: May of %d bytes, %s: not %t", n, shown(x), want)
			}
		}
	}
	for _, x := range []api.Tape{{}, from("|,|"), from("a|,|"), from("|b,|"), from("|,c|"), from("|,|d"), withRoom(api.Tape{})} {
		if !tape.May(x) {
			t.Errorf("P7.1: May(%s): false", shown(x))
		}
	}
	// The room behind the lists plays no part.
	if x := (api.Tape{Main: api.Area{Sure: roomy(nil, 2*whole), Loose: roomy([]byte("a"), whole)}}); !tape.May(x) {
		t.Error("P7.1: May: room behind the lists counts")
	}
	// Bytes that two lists have in common are bytes of each.
	half := make([]byte, whole/2+1)
	if tape.May(api.Tape{Main: api.Area{Sure: half}, Spare: api.Area{Loose: half}}) {
		t.Error("P7.1: May: the same memory twice counts once")
	}
}

// TestBytes: P7.1, an area's bytes are those that last, and Loose behind them.
func TestBytes(t *testing.T) {
	for _, x := range []struct{ sure, loose string }{
		{"", ""}, {"a", ""}, {"", "b"}, {"a", "b"}, {"ab", "cd"}, {"\x00", "\x00"}, {strings.Repeat("s", whole), strings.Repeat("l", whole+1)},
	} {
		for _, room := range []int{0, 1, 50} {
			a := api.Area{Sure: roomy([]byte(x.sure), room), Loose: roomy([]byte(x.loose), room)}
			got := tape.Bytes(a)
			if string(got) != x.sure+x.loose {
				t.Errorf("P7.1: Bytes of %d and %d: %d bytes", len(x.sure), len(x.loose), len(got))
			}
			// The answer is in memory of its own, its room too.
			_ = append(got, "more"...)
			clear(got)
			if string(a.Sure) != x.sure || string(a.Loose) != x.loose || bytes.Count(a.Sure[len(a.Sure):cap(a.Sure)], []byte{'#'}) != room {
				t.Errorf("rule 3: Bytes shares memory with what was handed in: %d and %d", len(x.sure), len(x.loose))
			}
		}
	}
	if got := tape.Bytes(api.Area{}); len(got) != 0 {
		t.Errorf("P7.1: Bytes of nothing: %x", got)
	}
}

// TestWrite: P7.1, what is written stands behind Loose, of Main or of Spare, and doesn't last yet.
func TestWrite(t *testing.T) {
	for _, x := range []struct {
		t     string
		spare bool
		b     string
		want  string
	}{
		{"|,|", false, "a", "|a,|"},
		{"|,|", true, "a", "|,|a"},
		{"|,|", false, "", "|,|"},
		{"|,|", true, "", "|,|"},
		{"ab|,|", false, "cd", "ab|cd,|"},
		{"ab|,|", true, "cd", "ab|,|cd"},
		{"|ab,|", false, "cd", "|abcd,|"},
		{"|,|ab", true, "cd", "|,|abcd"},
		{"|,ab|", true, "cd", "|,ab|cd"},
		{"ab|cd,e|fgh", false, "i", "ab|cdi,e|fgh"},
		{"ab|cd,e|fgh", true, "i", "ab|cd,e|fghi"},
		{"ab|cd,e|fgh", false, "", "ab|cd,e|fgh"},
		{"ab|cd,e|fgh", true, "", "ab|cd,e|fgh"},
	} {
		holdWrite(t, "P7.1: Write", from(x.t), x.spare, []byte(x.b), from(x.want), api.OK)
		holdWrite(t, "P7.1: Write with room", withRoom(from(x.t)), x.spare, roomy([]byte(x.b), 9), from(x.want), api.OK)
		holdWrite(t, "P7.1: Write in a row", inRow(from(x.t)), x.spare, []byte(x.b), from(x.want), api.OK)
	}
	holdWrite(t, "P7.1: Write of nil", from("ab|cd,e|fgh"), true, nil, from("ab|cd,e|fgh"), api.OK)
	// What is written may be a part of the tape.
	x := inRow(from("ab|cd,e|fgh"))
	holdWrite(t, "P7.1: Write of itself", x, false, x.Main.Sure, from("ab|cdab,e|fgh"), api.OK)
	holdWrite(t, "P7.1: Write of itself", x, true, x.Spare.Loose, from("ab|cd,e|fghfgh"), api.OK)
}

// TestWriteFull: P7.1, bytes that make just 65536, wherever the others are, are written; one more is Range, and the tape as it is.
func TestWriteFull(t *testing.T) {
	for _, b := range [][]byte{nil, {}, {'x'}, []byte("xyz"), bytes.Repeat([]byte{'x'}, 1000), bytes.Repeat([]byte{'x'}, whole-20)} {
		for _, spare := range []bool{false, true} {
			for _, x := range spread(whole - len(b)) {
				want := diskOf(x).written(spare, b).tape()
				holdWrite(t, "P7.1: Write, just full", withRoom(x), spare, b, want, api.OK)
				more := append(slices.Clone(b), 'y')
				holdWrite(t, "P7.1: Write, one more", withRoom(x), spare, more, x, api.Range)
			}
			for _, x := range spread(whole + 1 - len(b)) {
				if len(b) > 0 {
					holdWrite(t, "P7.1: Write, one more there", x, spare, b, x, api.Range)
				}
			}
		}
	}
	for _, spare := range []bool{false, true} {
		all := bytes.Repeat([]byte{'z'}, whole)
		holdWrite(t, "P7.1: Write, all at once", api.Tape{}, spare, all, disk{}.written(spare, all).tape(), api.OK)
		holdWrite(t, "P7.1: Write, too much at once", api.Tape{}, spare, append(all, 'z'), api.Tape{}, api.Range)
		holdWrite(t, "P7.1: Write, much too much", from("a|b,c|d"), spare, make([]byte, 10*whole), from("a|b,c|d"), api.Range)
	}
}

// TestWriteArg: P7.1, a tape that may not be is Arg, with bytes and without, also where it would be Range, and comes back as it is.
func TestWriteArg(t *testing.T) {
	for _, n := range []int{whole + 1, whole + 2, 2 * whole, 4 * whole} {
		for _, x := range spread(n) {
			for _, spare := range []bool{false, true} {
				for _, b := range [][]byte{nil, {}, {1}, make([]byte, whole), make([]byte, whole+1)} {
					holdWrite(t, "P7.1: Write, may not be", x, spare, b, x, api.Arg)
				}
			}
		}
	}
}

// TestSyncTurnWipe: P7.2, all bytes of the area that is meant last; Spare is Main; Spare has nothing.
func TestSyncTurnWipe(t *testing.T) {
	for _, x := range []struct{ t, main, spare, turned, wiped string }{
		{"|,|", "|,|", "|,|", "|,|", "|,|"},
		{"ab|cd,e|fgh", "abcd|,e|fgh", "ab|cd,efgh|", "e|fgh,|", "ab|cd,|"},
		{"ab|,e|", "ab|,e|", "ab|,e|", "e|,|", "ab|,|"},
		{"|cd,|fgh", "cd|,|fgh", "|cd,fgh|", "|fgh,|", "|cd,|"},
		{"ab|cd,|", "abcd|,|", "ab|cd,|", "|,|", "ab|cd,|"},
		{"|,e|fgh", "|,e|fgh", "|,efgh|", "e|fgh,|", "|,|"},
		{"ab|,|fgh", "ab|,|fgh", "ab|,fgh|", "|fgh,|", "ab|,|"},
	} {
		for _, in := range []api.Tape{from(x.t), withRoom(from(x.t)), inRow(from(x.t))} {
			hold(t, "P7.2: Sync of Main of "+x.t, tape.Sync(in, false), from(x.main))
			hold(t, "P7.2: Sync of Spare of "+x.t, tape.Sync(in, true), from(x.spare))
			hold(t, "P7.2: Turn of "+x.t, tape.Turn(in), from(x.turned))
			hold(t, "P7.2: Wipe of "+x.t, tape.Wipe(in), from(x.wiped))
		}
	}
}

// TestCut: P7.2, Main has its first n bytes, those that last first, and Spare what it had.
func TestCut(t *testing.T) {
	for _, x := range []struct {
		t    string
		want []string // by n, from 0 on; the last one, also by all above
	}{
		{"|,|", []string{"|,|"}},
		{"|,e|fgh", []string{"|,e|fgh"}},
		{"ab|cd,e|fgh", []string{"|,e|fgh", "a|,e|fgh", "ab|,e|fgh", "ab|c,e|fgh", "ab|cd,e|fgh"}},
		{"abc|,|f", []string{"|,|f", "a|,|f", "ab|,|f", "abc|,|f"}},
		{"|abc,e|", []string{"|,e|", "|a,e|", "|ab,e|", "|abc,e|"}},
		{"a|b,|", []string{"|,|", "a|,|", "a|b,|"}},
	} {
		for _, in := range []api.Tape{from(x.t), withRoom(from(x.t)), inRow(from(x.t))} {
			for _, n := range append(ends, 4, 5, 6) {
				want := x.want[max(0, min(n, len(x.want)-1))]
				hold(t, "P7.2: Cut of "+x.t, tape.Cut(in, n), from(want))
			}
		}
	}
}

// TestLose: P7.2, of each area's Loose the first bytes are left, as many as keep says of each, and all that is left lasts.
func TestLose(t *testing.T) {
	for _, x := range []struct {
		t    string
		want []string // by keep, from 0 on; the last one, also by all above
	}{
		{"|,|", []string{"|,|"}},
		{"ab|cd,e|fgh", []string{"ab|,e|", "abc|,ef|", "abcd|,efg|", "abcd|,efgh|"}},
		{"ab|,e|", []string{"ab|,e|"}},
		{"|cd,|fgh", []string{"|,|", "c|,f|", "cd|,fg|", "cd|,fgh|"}},
		{"ab|cd,|", []string{"ab|,|", "abc|,|", "abcd|,|"}},
		{"|,ab|cd", []string{"|,ab|", "|,abc|", "|,abcd|"}},
		{"abcdef|g,|h", []string{"abcdef|,|", "abcdefg|,h|"}},
	} {
		for _, in := range []api.Tape{from(x.t), withRoom(from(x.t)), inRow(from(x.t))} {
			for _, keep := range append(ends, 4, 5, 6) {
				want := x.want[max(0, min(keep, len(x.want)-1))]
				hold(t, "P7.2: Lose of "+x.t, tape.Lose(in, keep), from(want))
			}
		}
	}
}

// TestExample: the chapter's own: ab synced, cd written, the power goes with 1 kept.
func TestExample(t *testing.T) {
	for _, spare := range []bool{false, true} {
		x, first := tape.Write(api.Tape{}, spare, []byte("ab"))
		x, second := tape.Write(tape.Sync(x, spare), spare, []byte("cd"))
		want := disk{}.written(spare, []byte("abc")).synced(spare).tape()
		if first != api.OK || second != api.OK {
			t.Errorf("P7.1: Write: %d, %d", first, second)
		}
		hold(t, "P7.3: Lose", tape.Lose(x, 1), want)
	}
}

// TestAnyTape: P7.2, also tapes that may not be are synced, turned, wiped, cut and lose power, by all numbers about which something changes.
func TestAnyTape(t *testing.T) {
	for _, n := range []int{whole, whole + 1, 3 * whole} {
		for _, x := range spread(n) {
			for _, spare := range []bool{false, true} {
				hold(t, "P7.2: Sync", tape.Sync(x, spare), diskOf(x).synced(spare).tape())
			}
			hold(t, "P7.2: Turn", tape.Turn(x), diskOf(x).turned().tape())
			hold(t, "P7.2: Wipe", tape.Wipe(x), diskOf(x).wiped().tape())
		}
	}
	for _, x := range spread(whole + 1) {
		// The cells of so many bytes are slow: of these tapes, those that have something on each list.
		if slices.ContainsFunc(lists(&x), func(l *[]byte) bool { return len(*l) == 0 }) {
			continue
		}
		for _, n := range about(x) {
			hold(t, "P7.2: Cut", tape.Cut(x, n), diskOf(x).cut(n).tape())
			hold(t, "P7.2: Lose", tape.Lose(x, n), diskOf(x).lost(n).tape())
		}
	}
}

// TestByWords: P7.1 and P7.2, tapes of all kinds, their lists with room behind them, by all numbers about which something changes, come to what the words come to; nothing that is handed in changes.
func TestByWords(t *testing.T) {
	draw := rand.New(rand.NewSource(71))
	for _, plain := range some(draw, 1000) {
		for _, x := range []api.Tape{plain, withRoom(plain), inRow(plain)} {
			was := rooms(x)
			for _, spare := range []bool{false, true} {
				b := roomy(make([]byte, draw.Intn(9)), draw.Intn(3)*9)
				draw.Read(b)
				holdWrite(t, "P7.1: Write", x, spare, b, diskOf(x).written(spare, b).tape(), api.OK)
				hold(t, "P7.2: Sync", tape.Sync(x, spare), diskOf(x).synced(spare).tape())
			}
			hold(t, "P7.2: Turn", tape.Turn(x), diskOf(x).turned().tape())
			hold(t, "P7.2: Wipe", tape.Wipe(x), diskOf(x).wiped().tape())
			for _, n := range about(x) {
				hold(t, "P7.2: Cut", tape.Cut(x, n), diskOf(x).cut(n).tape())
				hold(t, "P7.2: Lose", tape.Lose(x, n), diskOf(x).lost(n).tape())
			}
			if !slices.EqualFunc(rooms(x), was, bytes.Equal) {
				t.Fatalf("rule 3: what was handed in is %s now", shown(x))
			}
		}
	}
}

// step is a call by some draw, and what the words make of it.
func step(t *testing.T, draw *rand.Rand, x api.Tape) api.Tape {
	d, spare, n := diskOf(x), draw.Intn(2) == 0, draw.Intn(12)-1
	var got api.Tape
	switch draw.Intn(8) {
	case 0, 1, 2:
		b := make([]byte, draw.Intn(6))
		draw.Read(b)
		var code api.Code
		if got, code = tape.Write(x, spare, b); code != api.OK {
			t.Errorf("P7.1: Write: %d", code)
		}
		d = d.written(spare, b)
		clear(b)
	case 3:
		got, d = tape.Sync(x, spare), d.synced(spare)
	case 4:
		got, d = tape.Turn(x), d.turned()
	case 5:
		got, d = tape.Wipe(x), d.wiped()
	case 6:
		got, d = tape.Cut(x, n), d.cut(n)
	default:
		got, d = tape.Lose(x, n), d.lost(n)
	}
	hold(t, "P7.1, P7.2: in a row", got, d.tape())
	return got
}

// TestInRow: P7.1 and P7.2, what one call answered is handed to others, to more than one: each tape that was answered is the same still when all was done.
func TestInRow(t *testing.T) {
	draw := rand.New(rand.NewSource(72))
	for range 300 {
		tapes := []api.Tape{withRoom(from("ab|cd,e|fgh"))}
		was := []api.Tape{copied(tapes[0])}
		for range 40 {
			x := step(t, draw, tapes[max(0, len(tapes)-1-draw.Intn(3))])
			tapes, was = append(tapes, x), append(was, copied(x))
		}
		for i, x := range tapes {
			hold(t, "rule 3: behind other calls", x, was[i])
		}
	}
}

// calls are one of each, by what they are named.
var calls = map[string]func(x api.Tape) api.Tape{
	"Write to Main":     func(x api.Tape) api.Tape { return okay(tape.Write(x, false, []byte("w"))) },
	"Write to Spare":    func(x api.Tape) api.Tape { return okay(tape.Write(x, true, []byte("w"))) },
	"Write of nothing":  func(x api.Tape) api.Tape { return okay(tape.Write(x, false, nil)) },
	"Sync of Main":      func(x api.Tape) api.Tape { return tape.Sync(x, false) },
	"Sync of Spare":     func(x api.Tape) api.Tape { return tape.Sync(x, true) },
	"Turn":              tape.Turn,
	"Wipe":              tape.Wipe,
	"Cut to nothing":    func(x api.Tape) api.Tape { return tape.Cut(x, 0) },
	"Cut to 1":          func(x api.Tape) api.Tape { return tape.Cut(x, 1) },
	"Cut to what lasts": func(x api.Tape) api.Tape { return tape.Cut(x, len(x.Main.Sure)) },
	"Cut to 3":          func(x api.Tape) api.Tape { return tape.Cut(x, 3) },
	"Cut to all":        func(x api.Tape) api.Tape { return tape.Cut(x, math.MaxInt) },
	"Lose all":          func(x api.Tape) api.Tape { return tape.Lose(x, 0) },
	"Lose all but 1":    func(x api.Tape) api.Tape { return tape.Lose(x, 1) },
	"Lose nothing":      func(x api.Tape) api.Tape { return tape.Lose(x, math.MaxInt) },
}

// okay is a tape that was answered, whatever the code beside it.
func okay(x api.Tape, _ api.Code) api.Tape { return x }

// scribble writes over all that a tape has, and over the room behind each list.
func scribble(x api.Tape) {
	for _, l := range lists(&x) {
		for i := range *l {
			(*l)[i] = '!'
		}
		_ = append(*l, "????????"...)
	}
}

// TestApart: rule 3, what two calls on the same tape answer is written over, and more is laid behind it: neither the other answer nor what was handed in changes; nor does an answer, when what was handed in is written over.
func TestApart(t *testing.T) {
	for _, plain := range some(rand.New(rand.NewSource(73)), 20) {
		for first, one := range calls {
			for second, other := range calls {
				x := withRoom(plain)
				if len(first)%2 == 0 {
					x = inRow(plain)
				}
				was := rooms(x)
				a, b := one(x), other(x)
				want := copied(b)
				scribble(a)
				hold(t, "rule 3: "+second+" behind "+first+" that was written over", b, want)
				if !slices.EqualFunc(rooms(x), was, bytes.Equal) {
					t.Errorf("rule 3: %s shares memory with what was handed in", first)
				}
				scribble(x)
				hold(t, "rule 3: "+second+" of what was written over", b, want)
			}
		}
	}
}

// TestListsApart: rule 3, more is laid behind each list of an answer: no other list of it changes.
func TestListsApart(t *testing.T) {
	for _, plain := range some(rand.New(rand.NewSource(74)), 50) {
		for name, call := range calls {
			for _, x := range []api.Tape{plain, withRoom(plain), inRow(plain)} {
				got := call(x)
				want := copied(got)
				for _, l := range lists(&got) {
					_ = append(*l, "????????"...)
				}
				hold(t, "rule 3: "+name+", and more laid behind its lists", got, want)
			}
		}
	}
}

// TestWrittenOver: rule 3, what was written is on the tape still when b is written over.
func TestWrittenOver(t *testing.T) {
	for _, text := range []string{"|,|", "ab|,e|", "ab|cd,e|fgh", "|cd,|fgh"} {
		for _, spare := range []bool{false, true} {
			b := []byte("written")
			got := okay(tape.Write(from(text), spare, b))
			copy(b, "XXXXXXX")
			hold(t, "rule 3: Write", got, diskOf(from(text)).written(spare, []byte("written")).tape())
		}
	}
}

// TestPowerGoes: P7.3, of any tape, and of one behind some steps: when the power goes, all that lasted is there, and what is there is a beginning of what was, and lasts.
func TestPowerGoes(t *testing.T) {
	draw := rand.New(rand.NewSource(75))
	x := api.Tape{}
	for range 2000 {
		x = step(t, draw, x)
		for _, keep := range about(x) {
			left := tape.Lose(x, keep)
			for i, a := range []api.Area{left.Main, left.Spare} {
				was := []api.Area{x.Main, x.Spare}[i]
				if !bytes.HasPrefix(tape.Bytes(a), was.Sure) {
					t.Errorf("P7.3: Lose(%s, %d): %s: what lasted is gone", shown(x), keep, shown(left))
				}
				if !bytes.HasPrefix(tape.Bytes(was), tape.Bytes(a)) {
					t.Errorf("P7.3: Lose(%s, %d): %s: no beginning", shown(x), keep, shown(left))
				}
				if len(a.Loose) != 0 {
					t.Errorf("P7.3: Lose(%s, %d): %s: not all of it lasts", shown(x), keep, shown(left))
				}
			}
			hold(t, "P7.3: Lose of what was lost", tape.Lose(left, draw.Intn(9)), left)
		}
	}
}

// TestSyncedStays: P7.3, all that was there when an area was synced is there when the power goes, whatever was written behind it.
func TestSyncedStays(t *testing.T) {
	draw := rand.New(rand.NewSource(76))
	for _, x := range some(draw, 300) {
		for _, spare := range []bool{false, true} {
			synced := tape.Sync(x, spare)
			b := make([]byte, draw.Intn(9))
			draw.Read(b)
			for keep := range len(b) + 3 {
				left := tape.Lose(okay(tape.Write(synced, spare, b)), keep-1)
				was, is := []api.Area{x.Main, x.Spare}[place(spare)], []api.Area{left.Main, left.Spare}[place(spare)]
				want := slices.Concat(was.Sure, was.Loose, b[:max(0, min(keep-1, len(b)))])
				if !bytes.Equal(is.Sure, want) || len(is.Loose) != 0 {
					t.Errorf("P7.3: %s synced, %x written, %d kept: %s", shown(x), b, keep-1, shown(left))
				}
			}
		}
	}
}
