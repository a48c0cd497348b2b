package store_test

import (
	"bytes"
	"encoding/binary"
	"hash/crc32"
	"math"
	"math/rand"
	"slices"
	"strconv"
	"strings"
	"testing"

	"coffers/api"
	"coffers/store"
)

// whole is as many bytes as a tape may have.
const whole = 65536

// ends are numbers as small and as great as can be, and about 0.
var ends = []int{math.MinInt, math.MinInt + 1, math.MinInt32, -whole, -2, -1, 0, 1, 2, math.MaxInt32, math.MaxInt - 1, math.MaxInt}

// sizes are of how many bytes states are that the chapter names, and others beside them.
var sizes = []int{0, 1, 2, 126, 127, 128, 129, 16383, 16384, 16385}

// framed is a frame as layer 8's words have it: how many bytes, they, and the sum of that.
func framed(payload []byte) []byte {
	text := append(binary.AppendUvarint(nil, uint64(len(payload))), payload...)
	return binary.LittleEndian.AppendUint32(text, crc32.ChecksumIEEE(text))
}

// row is the frames of some bytes, one behind the other.
func row(payloads ...string) []byte {
	var out []byte
	for _, p := range payloads {
		out = append(out, framed([]byte(p))...)
	}
	return out
}

// filled is a row of one frame that has just so many bytes in all, if there is one.
func filled(size int) []byte {
	for near := range 9 {
		if n := size - 5 - near; n >= 0 {
			if b := framed(bytes.Repeat([]byte{'f'}, n)); len(b) == size {
				return b
			}
		}
	}
	return nil
}

// scanned are the bytes of the last frame with which b begins, how many bytes these frames have, and whether there is one.
func scanned(b []byte) (last []byte, size int, ok bool) {
	for {
		rest := b[size:]
		n, k := binary.Uvarint(rest)
		if k <= 0 || n > uint64(len(rest)-k) {
			return last, size, ok
		}
		payload := rest[k : k+int(n)]
		f := framed(payload)
		if !bytes.HasPrefix(rest, f) {
			return last, size, ok
		}
		last, size, ok = payload, size+len(f), true
	}
}

// main is a tape whose Main has these bytes, which last, and that has nothing else.
func main(b []byte) api.Tape {
	return api.Tape{Main: api.Area{Sure: b}}
}

// lists are the four of a tape.
func lists(t *api.Tape) []*[]byte {
	return []*[]byte{&t.Main.Sure, &t.Main.Loose, &t.Spare.Sure, &t.Spare.Loose}
}

// total is how many bytes a tape has.
func total(t api.Tape) (n int) {
	for _, l := range lists(&t) {
		n += len(*l)
	}
	return n
}

// same: are two tapes alike, list by list?
func same(a, b api.Tape) bool {
	other := lists(&b)
	for i, l := range lists(&a) {
		if !bytes.Equal(*l, *other[i]) {
			return false
		}
	}
	return true
}

// copied is the same tape, with lists of its own.
func copied(t api.Tape) api.Tape {
	for _, l := range lists(&t) {
		*l = slices.Clone(*l)
	}
	return t
}

// shown are bytes as text, not all where they are many.
func shown(b []byte) string {
	out := strconv.Quote(string(b[:min(len(b), 30)]))
	if len(b) > 30 {
		out += ".. (" + strconv.Itoa(len(b)) + ")"
	}
	return out
}

// told is a tape as text.
func told(t api.Tape) string {
	var out []string
	for _, l := range lists(&t) {
		out = append(out, shown(*l))
	}
	return "{" + strings.Join(out, " ") + "}"
}

// roomy are the same bytes, in memory that has room behind them, all of it '#'.
func roomy(b []byte, room int) []byte {
	all := bytes.Repeat([]byte{'#'}, len(b)+room)
	copy(all, b)
	return all[:len(b):len(all)]
}

// withRoom is the same tape, with room behind each list.
func withRoom(t api.Tape) api.Tape {
	for i, l := range lists(&t) {
		*l = roomy(*l, 300+i)
	}
	return t
}

// inRow is the same tape, its lists one behind the other in the same memory, so that the room behind each is the next one, and at last '#'.
func inRow(t api.Tape) api.Tape {
	var all []byte
	for _, l := range lists(&t) {
		all = append(all, *l...)
	}
	all = roomy(all, 300)
	for _, l := range lists(&t) {
		n := len(*l)
		*l, all = all[:n], all[n:]
	}
	return t
}

// rooms are a tape's bytes and what stands in the room behind them, in memory of their own.
func rooms(t api.Tape) [][]byte {
	var out [][]byte
	for _, l := range lists(&t) {
		out = append(out, slices.Clone((*l)[:cap(*l)]))
	}
	return out
}

// opened is a tape opened, by the chapter's words.
func opened(t api.Tape) api.Tape {
	all := slices.Concat(t.Main.Sure, t.Main.Loose)
	_, size, _ := scanned(all)
	return main(all[:size])
}

// saved is a tape just ahead of the sync and behind all steps, while a state is saved by the chapter's words; or a code.
func saved(t api.Tape, payload []byte, bound int) (written, done api.Tape, code api.Code) {
	f := framed(payload)
	had := t.Main.Sure
	both := slices.Concat(had, f)
	switch {
	case total(t) > whole, !same(opened(t), t):
		return t, t, api.Arg
	case len(f) > bound, len(both) > whole:
		return t, t, api.Range
	case len(both) <= bound:
		return api.Tape{Main: api.Area{Sure: had, Loose: f}}, main(both), api.OK
	}
	return api.Tape{Main: api.Area{Sure: had}, Spare: api.Area{Loose: f}}, main(f), api.OK
}

// lost is a tape as it is when the power went.
func lost(t api.Tape, keep int) api.Tape {
	part := func(a api.Area) api.Area {
		left := a.Loose[:max(0, min(keep, len(a.Loose)))]
		return api.Area{Sure: slices.Concat(a.Sure, left)}
	}
	return api.Tape{Main: part(t.Main), Spare: part(t.Spare)}
}

// holdHas: Has answers this.
func holdHas(t *testing.T, promise string, x api.Tape, want []byte, ok bool) {
	t.Helper()
	was := rooms(x)
	got, k := store.Has(x)
	if !bytes.Equal(got, want) || k != ok {
		t.Errorf("%s: Has(%s): %s, %t, want %s, %t", promise, told(x), shown(got), k, shown(want), ok)
	}
	holdKept(t, x, was)
}

// holdOpen: Open answers this.
func holdOpen(t *testing.T, promise string, x, want api.Tape) {
	t.Helper()
	was := rooms(x)
	if got := store.Open(x); !same(got, want) {
		t.Errorf("%s: Open(%s): %s, want %s", promise, told(x), told(got), told(want))
	}
	holdKept(t, x, was)
}

// holdSave: Save answers this.
func holdSave(t *testing.T, promise string, x api.Tape, payload []byte, bound int, want api.Tape, code api.Code) {
	t.Helper()
	was, wasPayload := rooms(x), slices.Clone(payload[:cap(payload)])
	got, c := store.Save(x, payload, bound)
	if !same(got, want) || c != code {
		t.Errorf("%s: Save(%s, %s, %d): %s, %d, want %s, %d", promise, told(x), shown(payload), bound, told(got), c, told(want), code)
	}
	if !bytes.Equal(payload[:cap(payload)], wasPayload) {
		t.Errorf("rule 3: Save(.., %s, ..) changed what was handed in", shown(payload))
	}
	holdKept(t, x, was)
}

// holdTorn: Torn answers this.
func holdTorn(t *testing.T, promise string, x api.Tape, payload []byte, bound, keep int, want api.Tape, code api.Code) {
	t.Helper()
	was, wasPayload := rooms(x), slices.Clone(payload[:cap(payload)])
	got, c := store.Torn(x, payload, bound, keep)
	if !same(got, want) || c != code {
		t.Errorf("%s: Torn(%s, %s, %d, %d): %s, %d, want %s, %d", promise, told(x), shown(payload), bound, keep, told(got), c, told(want), code)
	}
	if !bytes.Equal(payload[:cap(payload)], wasPayload) {
		t.Errorf("rule 3: Torn(.., %s, ..) changed what was handed in", shown(payload))
	}
	holdKept(t, x, was)
}

// holdKept: a tape has what it had, also in the room behind its lists.
func holdKept(t *testing.T, x api.Tape, was [][]byte) {
	t.Helper()
	if !slices.EqualFunc(rooms(x), was, bytes.Equal) {
		t.Errorf("rule 3: what was handed in is %s now", told(x))
	}
}

// holdRefused: by this bound neither Save nor Torn, with whatever keep, takes a state, and the tape is as it is.
func holdRefused(t *testing.T, x api.Tape, payload []byte, bound int, code api.Code) {
	t.Helper()
	holdSave(t, "P9.2", x, payload, bound, x, code)
	for _, keep := range []int{math.MinInt, -1, 0, 1, 5, len(payload) + 9, math.MaxInt} {
		holdTorn(t, "P9.3", x, payload, bound, keep, x, code)
	}
}

// drawn are n bytes of all kinds.
func drawn(draw *rand.Rand, n int) []byte {
	b := make([]byte, n)
	draw.Read(b)
	return b
}

// mains are bytes that are frames alone: none, one, and more of them.
func mains() [][]byte {
	return [][]byte{nil, row(""), row("a"), row("a", "b"), row("", "", ""), row("abc", "", strings.Repeat("x", 127)), row(strings.Repeat("y", 128), "z"), row(strings.Repeat("z", 16384))}
}

// behinds are bytes that begin with no frame.
func behinds() [][]byte {
	turned := row("turned")
	turned[3] ^= 1
	long := []byte{0x81, 0, 'a'}
	return [][]byte{{0}, {5}, {0x80}, {0xFF, 0xFF}, []byte("more"), row("")[:4], row("cut")[:7], turned, slices.Concat(turned, row("a")), binary.LittleEndian.AppendUint32(long, crc32.ChecksumIEEE(long)), bytes.Repeat([]byte{0xFF}, 40), make([]byte, 100)}
}

// stride is how far to go on over so many bytes: each of them, or, where they are many, some.
func stride(size int) int {
	if size < 400 {
		return 1
	}
	return size / 15
}

// split are the tapes of these bytes in Main, the first ones lasting: of each number of them, or, where they are many, of some.
func split(b []byte) []api.Tape {
	var out []api.Tape
	for i := 0; i <= len(b); i += stride(len(b)) {
		out = append(out, api.Tape{Main: api.Area{Sure: b[:i:i], Loose: b[i:]}})
	}
	return append(out, main(b), api.Tape{Main: api.Area{Loose: b}})
}

// TestExamples: the chapter's example, and others, written out.
func TestExamples(t *testing.T) {
	a, b, none := "\x01a\x70\x72\x77\x62", "\x01b\xCA\x23\x7E\xFB", "\x00\x8D\xEF\x02\xD2"
	x := main([]byte(a))
	holdSave(t, "P9.2", api.Tape{}, []byte("a"), 6, x, api.OK)
	holdSave(t, "P9.2", x, []byte("b"), 12, main([]byte(a+b)), api.OK)
	holdHas(t, "P9.1", main([]byte(a+b)), []byte("b"), true)
	holdSave(t, "P9.2", x, []byte("b"), 11, main([]byte(b)), api.OK)
	holdSave(t, "P9.2", x, []byte("b"), 6, main([]byte(b)), api.OK)
	holdSave(t, "P9.2", x, []byte("b"), 5, x, api.Range)
	holdSave(t, "P9.2", x, nil, 11, main([]byte(a+none)), api.OK)
	holdSave(t, "P9.2", x, nil, 10, main([]byte(none)), api.OK)
	holdSave(t, "P9.2", x, nil, 4, x, api.Range)
	holdHas(t, "P9.1", main([]byte(a+none)), nil, true)
	holdTorn(t, "P9.3", x, []byte("b"), 12, 2, main([]byte(a+"\x01b")), api.OK)
	holdTorn(t, "P9.3", x, []byte("b"), 12, 6, main([]byte(a+b)), api.OK)
	holdTorn(t, "P9.3", x, []byte("b"), 11, 2, api.Tape{Main: x.Main, Spare: api.Area{Sure: []byte("\x01b")}}, api.OK)
	holdTorn(t, "P9.3", x, []byte("b"), 11, 6, api.Tape{Main: x.Main, Spare: api.Area{Sure: []byte(b)}}, api.OK)
	holdOpen(t, "P9.1", api.Tape{Main: api.Area{Sure: []byte(a + "\x01"), Loose: []byte("b")}, Spare: api.Area{Sure: []byte(b), Loose: []byte(b)}}, x)
	holdOpen(t, "P9.1", api.Tape{Main: api.Area{Sure: []byte(a[:3]), Loose: []byte(a[3:] + b)}}, main([]byte(a+b)))
}

// TestNothing: P9.1, a tape without anything, and one whose bytes begin with no frame, has nothing, also where its Spare has frames; opened, it has no bytes.
func TestNothing(t *testing.T) {
	for _, x := range []api.Tape{{}, main([]byte{}), withRoom(api.Tape{}), {Spare: api.Area{Sure: row("a", "b")}}, {Spare: api.Area{Sure: row("a"), Loose: row("b")}}} {
		holdHas(t, "P9.1", x, nil, false)
		holdOpen(t, "P9.1", x, api.Tape{})
	}
	for _, b := range behinds() {
		for _, x := range split(slices.Concat(b, row("a", "b"))) {
			holdHas(t, "P9.1", x, nil, false)
			holdOpen(t, "P9.1", x, api.Tape{})
			x.Spare = api.Area{Sure: row("a"), Loose: row("b")}
			holdHas(t, "P9.1", x, nil, false)
			holdOpen(t, "P9.1", x, api.Tape{})
		}
	}
}

// TestHasAndOpen: P9.1, frames with nothing and with all kinds of bytes behind them, wherever what lasts ends, with and without something in Spare: the last frame is what the tape has, and Main keeps its frames alone, which last then.
func TestHasAndOpen(t *testing.T) {
	for _, frames := range mains()[1:] {
		for _, behind := range append(behinds(), nil) {
			last, _, _ := scanned(frames)
			all := slices.Concat(frames, behind)
			for _, x := range split(all) {
				for _, spare := range []api.Area{{}, {Sure: row("spare")}, {Loose: row("spare")}, {Sure: []byte("x"), Loose: []byte("y")}} {
					x.Spare = spare
					holdHas(t, "P9.1", x, last, true)
					holdOpen(t, "P9.1", x, main(frames))
				}
				holdOpen(t, "P9.1", withRoom(x), main(frames))
				holdOpen(t, "P9.1", inRow(x), main(frames))
				holdHas(t, "P9.1", inRow(x), last, true)
			}
		}
	}
}

// TestCutMain: P9.1, Main cut at each of its bytes has the last frame that is whole.
func TestCutMain(t *testing.T) {
	frames := row("first", "", strings.Repeat("x", 128), "last")
	for i := range len(frames) + 1 {
		last, size, ok := scanned(frames[:i:i])
		for _, x := range split(frames[:i:i]) {
			holdHas(t, "P9.1", x, last, ok)
			holdOpen(t, "P9.1", x, main(frames[:size]))
		}
		// What stands in the room behind plays no part.
		holdHas(t, "P9.1", main(frames[:i]), last, ok)
		holdOpen(t, "P9.1", main(frames[:i]), main(frames[:size]))
	}
}

// TestAnyTape: P9.1, also tapes that may not be have something, and are opened.
func TestAnyTape(t *testing.T) {
	for _, frames := range [][]byte{filled(whole), filled(whole + 1), filled(3 * whole), slices.Concat(filled(whole), row("a")), bytes.Repeat(row(""), whole)} {
		last, size, ok := scanned(frames)
		if !ok || size != len(frames) {
			t.Fatalf("no frames: %s", shown(frames))
		}
		for _, n := range []int{0, 1, 5, whole, len(frames) - 1, len(frames)} {
			x := api.Tape{Main: api.Area{Sure: frames[:n], Loose: frames[n:]}, Spare: api.Area{Sure: make([]byte, whole), Loose: row("b")}}
			holdHas(t, "P9.1", x, last, true)
			holdOpen(t, "P9.1", x, main(frames))
			x.Main.Loose = append(slices.Clone(x.Main.Loose), make([]byte, whole)...)
			holdHas(t, "P9.1", x, last, true)
			holdOpen(t, "P9.1", x, main(frames))
		}
	}
	x := api.Tape{Main: api.Area{Sure: make([]byte, 2*whole)}, Spare: api.Area{Sure: filled(whole)}}
	holdHas(t, "P9.1", x, nil, false)
	holdOpen(t, "P9.1", x, api.Tape{})
}

// TestSaveByBounds: P9.2, states of the sizes that are named, behind all kinds of frames: by a bound that just takes both, the frame goes behind; by one less, and down to what just takes the frame alone, Main has the frame alone; by less, it is Range.
func TestSaveByBounds(t *testing.T) {
	draw := rand.New(rand.NewSource(91))
	for _, had := range mains() {
		for _, n := range sizes {
			payload := drawn(draw, n)
			f := framed(payload)
			both, alone := len(had)+len(f), len(f)
			for _, x := range []api.Tape{main(had), withRoom(main(had)), inRow(main(had))} {
				for _, bound := range []int{both, both + 1, whole, whole + 1, math.MaxInt - 1, math.MaxInt} {
					holdSave(t, "P9.2, behind", x, payload, bound, main(slices.Concat(had, f)), api.OK)
				}
				for _, bound := range []int{both - 1, alone + 1, alone} {
					if bound >= alone && bound < both {
						holdSave(t, "P9.2, anew", x, payload, bound, main(f), api.OK)
					}
				}
				for _, bound := range []int{alone - 1, alone - 2, n, 4, 1, 0, -1, -alone, math.MinInt32, math.MinInt + 1, math.MinInt} {
					if bound < alone {
						holdSave(t, "P9.2, too great", x, payload, bound, x, api.Range)
					}
				}
			}
			holdSave(t, "P9.2, with room", main(had), roomy(payload, 50), both, main(slices.Concat(had, f)), api.OK)
		}
	}
}

// TestRefused: P9.2 and P9.3, a bound that is less than the frame alone is Range, in Torn too, by whatever keep.
func TestRefused(t *testing.T) {
	for _, had := range mains() {
		for _, n := range sizes {
			payload := bytes.Repeat([]byte{'p'}, n)
			alone := len(framed(payload))
			for _, bound := range append(ends, alone-1, n, len(had)) {
				if bound < alone {
					holdRefused(t, main(had), payload, bound, api.Range)
				}
			}
		}
	}
}

// TestFull: P9.2 and P9.3, there would be just 65536 bytes on the way, in both ways of saving: the state is saved; with one more, in either way, it is Range.
func TestFull(t *testing.T) {
	for _, n := range append(sizes, 40000, 65000, whole-7, whole-6, whole, 2*whole) {
		payload := bytes.Repeat([]byte{'p'}, n)
		f := framed(payload)
		left := whole - len(f)
		for _, had := range [][]byte{filled(left), slices.Concat(row(""), filled(left-5))} {
			if left < 0 || len(had) != left {
				continue
			}
			x := main(had)
			for _, bound := range []int{whole, whole + 1, math.MaxInt} {
				holdSave(t, "P9.2, just full", x, payload, bound, main(slices.Concat(had, f)), api.OK)
				holdTorn(t, "P9.3, just full", x, payload, bound, 3, main(slices.Concat(had, f[:3])), api.OK)
			}
			for _, bound := range []int{whole - 1, len(f)} {
				if bound < whole && bound >= len(f) {
					holdSave(t, "P9.2, just full", x, payload, bound, main(f), api.OK)
					holdTorn(t, "P9.3, just full", x, payload, bound, 3, api.Tape{Main: x.Main, Spare: api.Area{Sure: f[:3]}}, api.OK)
				}
			}
			more := append(slices.Clone(payload), 'q')
			for _, bound := range []int{len(framed(more)), whole - 1, whole, whole + 1, whole + 2, math.MaxInt} {
				holdRefused(t, x, more, bound, api.Range)
			}
		}
		for _, had := range [][]byte{filled(left + 1), slices.Concat(row(""), filled(left-4))} {
			if len(had) == left+1 {
				for _, bound := range []int{len(f), whole, whole + 1, math.MaxInt} {
					holdRefused(t, main(had), payload, bound, api.Range)
				}
			}
		}
	}
	// The tape is full already, or the frame is more than a tape may have.
	for _, bound := range append(ends, 5, whole, whole+5) {
		holdRefused(t, main(filled(whole)), nil, bound, api.Range)
		holdRefused(t, api.Tape{}, make([]byte, whole), bound, api.Range)
		holdRefused(t, api.Tape{}, make([]byte, whole-6), bound, api.Range)
		holdRefused(t, api.Tape{}, make([]byte, 10*whole), bound, api.Range)
	}
	f := framed(make([]byte, whole-7))
	holdSave(t, "P9.2, alone", api.Tape{}, make([]byte, whole-7), whole, main(f), api.OK)
	holdRefused(t, api.Tape{}, make([]byte, whole-7), whole-1, api.Range)
}

// wrongs are tapes that may not be, or aren't as opened.
func wrongs() []api.Tape {
	frames := row("a", "b")
	out := []api.Tape{
		{Main: api.Area{Loose: frames}},
		{Main: api.Area{Loose: []byte{1}}},
		{Main: api.Area{Sure: frames, Loose: row("c")}},
		{Main: api.Area{Sure: frames, Loose: []byte{0}}},
		{Main: api.Area{Sure: frames[:9], Loose: frames[9:]}},
		{Main: api.Area{Sure: frames[:6], Loose: frames[6:]}},
		{Main: api.Area{Sure: frames}, Spare: api.Area{Sure: []byte{0}}},
		{Main: api.Area{Sure: frames}, Spare: api.Area{Loose: []byte{0}}},
		{Main: api.Area{Sure: frames}, Spare: api.Area{Sure: frames}},
		{Main: api.Area{Sure: frames}, Spare: api.Area{Loose: frames}},
		{Spare: api.Area{Sure: row("a")}},
		{Spare: api.Area{Loose: row("a")}},
		main(filled(whole + 1)),
		main(slices.Concat(filled(whole), row(""))),
		main(make([]byte, whole)),
		main(make([]byte, whole+1)),
		{Main: api.Area{Sure: filled(whole), Loose: []byte{0}}},
		{Main: api.Area{Sure: filled(whole - 5), Loose: row("")}},
		{Main: api.Area{Sure: filled(whole)}, Spare: api.Area{Sure: []byte{0}}},
		{Main: api.Area{Sure: filled(whole)}, Spare: api.Area{Loose: []byte{0}}},
		{Main: api.Area{Sure: make([]byte, whole), Loose: make([]byte, whole)}, Spare: api.Area{Sure: make([]byte, whole), Loose: make([]byte, whole)}},
	}
	for _, b := range behinds() {
		out = append(out, main(b), main(slices.Concat(frames, b)), main(slices.Concat(frames, b, frames)))
	}
	return out
}

// TestArg: P9.2 and P9.3, a tape that may not be, or isn't as opened, is Arg, also where it would be Range by the bound, or by how many bytes there would be; and it comes back as it is.
func TestArg(t *testing.T) {
	for _, x := range wrongs() {
		for _, payload := range [][]byte{nil, {'a'}, make([]byte, 128), make([]byte, whole), make([]byte, 2*whole)} {
			alone := len(framed(payload))
			for _, bound := range append(ends, 4, 5, alone-1, alone, len(x.Main.Sure)+alone, whole, whole+1) {
				holdSave(t, "P9.2", x, payload, bound, x, api.Arg)
				holdTorn(t, "P9.3", x, payload, bound, bound, x, api.Arg)
			}
		}
		holdRefused(t, withRoom(x), []byte("a"), 99, api.Arg)
		holdRefused(t, inRow(x), []byte("a"), -1, api.Arg)
	}
}

// TestAsOpened: P9.2, any tape, opened, takes a state, if it may be and there is room.
func TestAsOpened(t *testing.T) {
	for _, x := range wrongs() {
		o := store.Open(x)
		holdOpen(t, "P9.1, opened twice", o, o)
		want, code := o, api.Arg
		if total(o) <= whole {
			_, want, code = saved(o, []byte("s"), math.MaxInt)
		}
		holdSave(t, "P9.2, opened", o, []byte("s"), math.MaxInt, want, code)
	}
}

// keeps are the numbers about which something changes for a frame of so many bytes: each of them, or, where they are many, those about its ends and some between.
func keeps(size int) []int {
	out := append(slices.Clone(ends), size-2, size-1, size, size+1, size+2, whole)
	for i := 0; i < size; i += stride(size) {
		out = append(out, i)
	}
	return out
}

// TestTorn: P9.3, in both ways of saving, the power goes with each number of bytes kept: these last, on Main behind what was there, or on Spare; opened, the tape has what it had, or, if all of the frame was kept on Main, the new one; and it takes states again.
func TestTorn(t *testing.T) {
	draw := rand.New(rand.NewSource(92))
	for _, had := range mains() {
		was, _, has := scanned(had)
		for _, n := range sizes {
			if len(had) > 1000 && n > 1 && n != 16384 {
				continue // slow, and nothing of its own
			}
			payload := drawn(draw, n)
			f := framed(payload)
			x := main(had)
			for _, keep := range keeps(len(f)) {
				left := f[:max(0, min(keep, len(f)))]
				torn := main(slices.Concat(had, left))
				for _, bound := range []int{len(had) + len(f), whole, math.MaxInt} {
					holdTorn(t, "P9.3, behind", x, payload, bound, keep, torn, api.OK)
				}
				if keep >= len(f) {
					holdBehindTear(t, x, torn, payload, true)
				} else {
					holdBehindTear(t, x, torn, was, has)
				}
				torn = api.Tape{Main: api.Area{Sure: had}, Spare: api.Area{Sure: left}}
				for _, bound := range []int{len(f), len(had) + len(f) - 1} {
					if len(had) > 0 {
						holdTorn(t, "P9.3, anew", x, payload, bound, keep, torn, api.OK)
						holdBehindTear(t, x, torn, was, has)
					}
				}
			}
		}
	}
}

// holdBehindTear: a tape was torn, from x; opened, it has this, and is saved to again.
func holdBehindTear(t *testing.T, x, torn api.Tape, want []byte, ok bool) {
	t.Helper()
	open := store.Open(torn)
	holdHas(t, "P9.4, torn and opened", open, want, ok)
	if kept := x.Main.Sure; !bytes.HasPrefix(open.Main.Sure, kept) {
		t.Errorf("P9.4: torn and opened: %s, want at least %s", told(open), told(x))
	}
	for _, bound := range []int{9, whole} {
		_, again, code := saved(open, []byte("next"), bound)
		if code != api.OK {
			t.Fatalf("a tape that takes no more: %s", told(open))
		}
		holdSave(t, "P9.4, torn, opened", open, []byte("next"), bound, again, api.OK)
		got, _ := store.Save(open, []byte("next"), bound)
		holdHas(t, "P9.4, torn, opened, saved", got, []byte("next"), true)
	}
}

// TestTornErrors: P9.3, Torn tells the codes that Save tells, for each tape, state and bound.
func TestTornErrors(t *testing.T) {
	draw := rand.New(rand.NewSource(93))
	for _, x := range append(wrongs(), api.Tape{}, main(row("a")), main(filled(whole)), main(filled(whole-6))) {
		for _, n := range []int{0, 1, 127, 128, 16384, whole - 7, whole - 6} {
			payload := drawn(draw, n)
			alone := len(framed(payload))
			for _, bound := range []int{-1, 0, 4, 5, alone - 1, alone, alone + len(x.Main.Sure) - 1, alone + len(x.Main.Sure), whole, whole + 1, math.MaxInt} {
				_, code := store.Save(x, payload, bound)
				got, c := store.Torn(x, payload, bound, draw.Intn(20)-5)
				if c != code || code != api.OK && !same(got, x) {
					t.Errorf("P9.3: Torn(%s, %s, %d, ..): %s, %d, but Save tells %d", told(x), shown(payload), bound, told(got), c, code)
				}
			}
		}
	}
}

// step is a call by some draw on a tape as opened, what the words make of it, and what the tape has then when it is opened.
func step(t *testing.T, draw *rand.Rand, x api.Tape, has []byte, ok bool) (api.Tape, []byte, bool) {
	payload := drawn(draw, []int{0, 1, 2, 10, 60, 127, 128, 129}[draw.Intn(8)])
	alone := len(framed(payload))
	bound := []int{alone - 1, alone, alone + draw.Intn(300), len(x.Main.Sure) + alone - 1, len(x.Main.Sure) + alone, 400, draw.Intn(1000)}[draw.Intn(7)]
	keep := []int{-1, 0, draw.Intn(alone), alone - 1, alone, alone + 1, math.MaxInt}[draw.Intn(7)]
	written, done, code := saved(x, payload, bound)
	want, got := x, x
	switch draw.Intn(3) {
	case 0:
		if code == api.OK {
			want = opened(lost(written, keep))
		}
		torn, c := store.Torn(x, payload, bound, keep)
		got = store.Open(torn)
		if c == api.OK && len(written.Main.Loose) > 0 && keep >= alone {
			has, ok = payload, true
		}
	default:
		if code == api.OK {
			want = done
		}
		var c api.Code
		if got, c = store.Save(x, payload, bound); c == api.OK {
			has, ok = payload, true
		}
		if c != code {
			t.Errorf("P9.2: Save(%s, %s, %d): %d, want %d", told(x), shown(payload), bound, c, code)
		}
	}
	if !same(got, want) {
		t.Errorf("P9.2, P9.3: from %s, %s, bound %d, keep %d: %s, want %s", told(x), shown(payload), bound, keep, told(got), told(want))
	}
	if size := len(got.Main.Sure); size > max(bound, len(x.Main.Sure)) {
		t.Errorf("P9.4: Main has %d bytes, the bound is %d, and there were %d", size, bound, len(x.Main.Sure))
	}
	return got, slices.Clone(has), ok
}

// TestInRow: P9.4, states saved one behind the other, by bounds that take them together and that don't, and torn, and opened: what was saved last is what the tape has, and Main has at most as many bytes as the bound says, or as it had; each tape that was answered is the same still when all was done.
func TestInRow(t *testing.T) {
	draw := rand.New(rand.NewSource(94))
	for range 300 {
		tapes, was := []api.Tape{{}}, []api.Tape{{}}
		var has []byte
		ok := false
		for range 30 {
			var x api.Tape
			x, has, ok = step(t, draw, tapes[len(tapes)-1], has, ok)
			holdHas(t, "P9.4", x, has, ok)
			holdOpen(t, "P9.4: as opened", x, x)
			tapes, was = append(tapes, x), append(was, copied(x))
		}
		for i, x := range tapes {
			if !same(x, was[i]) {
				t.Fatalf("rule 3: behind other calls: %s, want %s", told(x), told(was[i]))
			}
		}
	}
}

// TestSameBound: P9.4, states saved one behind the other by the same bound: Main grows as long as there is room, and then has the last one alone.
func TestSameBound(t *testing.T) {
	for _, bound := range []int{10, 11, 12, 25, 100, 1000} {
		x, want := api.Tape{}, []byte(nil)
		for i := range 100 {
			payload := bytes.Repeat([]byte{byte(i)}, i%6)
			f := framed(payload)
			if want = slices.Concat(want, f); len(want) > bound {
				want = f
			}
			got, code := store.Save(x, payload, bound)
			if code != api.OK || !same(got, main(want)) {
				t.Fatalf("P9.4: bound %d, state %d: %s, %d, want %s", bound, i, told(got), code, told(main(want)))
			}
			holdHas(t, "P9.4", got, payload, true)
			x = got
		}
	}
	// Main has more than the bound: it keeps that while a small state can't be saved, and has the state alone when it can.
	x := main(row(strings.Repeat("x", 200)))
	holdSave(t, "P9.4", x, []byte("ab"), 6, x, api.Range)
	holdSave(t, "P9.4", x, []byte("ab"), 7, main(row("ab")), api.OK)
	holdTorn(t, "P9.4", x, []byte("ab"), 7, 9, api.Tape{Main: x.Main, Spare: api.Area{Sure: row("ab")}}, api.OK)
}

// calls are one of each way that a tape is answered, by what they are named.
var calls = map[string]func(x api.Tape, payload []byte) api.Tape{
	"Open":              func(x api.Tape, _ []byte) api.Tape { return store.Open(x) },
	"Save behind":       func(x api.Tape, b []byte) api.Tape { return okay(store.Save(x, b, math.MaxInt)) },
	"Save anew":         func(x api.Tape, b []byte) api.Tape { return okay(store.Save(x, b, len(framed(b)))) },
	"Torn behind":       func(x api.Tape, b []byte) api.Tape { return okay(store.Torn(x, b, math.MaxInt, 4)) },
	"Torn behind, all":  func(x api.Tape, b []byte) api.Tape { return okay(store.Torn(x, b, math.MaxInt, math.MaxInt)) },
	"Torn behind, none": func(x api.Tape, b []byte) api.Tape { return okay(store.Torn(x, b, math.MaxInt, 0)) },
	"Torn anew":         func(x api.Tape, b []byte) api.Tape { return okay(store.Torn(x, b, len(framed(b)), 4)) },
	"Torn anew, all":    func(x api.Tape, b []byte) api.Tape { return okay(store.Torn(x, b, len(framed(b)), math.MaxInt)) },
	"Torn anew, none":   func(x api.Tape, b []byte) api.Tape { return okay(store.Torn(x, b, len(framed(b)), 0)) },
}

// okay is a tape that was answered, whatever the code beside it.
func okay(x api.Tape, _ api.Code) api.Tape { return x }

// scribble writes over all that a tape has, and over the room behind each list.
func scribble(x api.Tape) {
	for _, l := range lists(&x) {
		for i := range (*l)[:cap(*l)] {
			(*l)[:cap(*l)][i] = '!'
		}
	}
}

// TestApart: rule 3, what two calls on the same tape answer is written over, and what was handed in: neither the other answer nor what was handed in changes, nor does an answer hang on it.
func TestApart(t *testing.T) {
	for _, had := range mains() {
		for name, one := range calls {
			for second, other := range calls {
				for _, lay := range []func(api.Tape) api.Tape{withRoom, inRow} {
					x, payload := lay(main(had)), roomy([]byte("payload"), 40)
					was, wasPayload := rooms(x), slices.Clone(payload[:cap(payload)])
					a, b := one(x, payload), other(x, payload)
					want := copied(b)
					scribble(a)
					if !same(b, want) {
						t.Errorf("rule 3: %s behind %s that was written over: %s, want %s", second, name, told(b), told(want))
					}
					holdKept(t, x, was)
					if !bytes.Equal(payload[:cap(payload)], wasPayload) {
						t.Errorf("rule 3: %s shares memory with the state", name)
					}
					scribble(x)
					clear(payload[:cap(payload)])
					if !same(b, want) {
						t.Errorf("rule 3: %s hangs on what was handed in", second)
					}
				}
			}
		}
	}
}

// TestListsApart: rule 3, more is laid behind each list of an answer, and the list is written over: no other list of it changes.
func TestListsApart(t *testing.T) {
	for _, had := range mains() {
		for name, call := range calls {
			got := call(withRoom(main(had)), []byte("payload"))
			want := copied(got)
			for i, l := range lists(&got) {
				_ = append(*l, "????????"...)
				if !same(got, want) {
					t.Fatalf("rule 3: %s: laid behind the list at %d, it is laid over another one", name, i)
				}
				clear(*l)
				clear(*lists(&want)[i])
				if !same(got, want) {
					t.Fatalf("rule 3: %s: the list at %d shares memory with another one", name, i)
				}
			}
		}
	}
}

// TestHasApart: rule 3, what Has answered twice of the same tape, and the tape, are written over: neither the other answer nor the tape changes, nor does an answer hang on it.
func TestHasApart(t *testing.T) {
	for _, had := range append(mains()[1:], row("a", "last")) {
		for _, x := range []api.Tape{withRoom(main(had)), inRow(main(had)), {Main: api.Area{Sure: slices.Clone(had[:3]), Loose: slices.Clone(had[3:])}}} {
			was := rooms(x)
			first, _ := store.Has(x)
			second, _ := store.Has(x)
			want := slices.Clone(second)
			for i := range first[:cap(first)] {
				first[:cap(first)][i] = '!'
			}
			holdKept(t, x, was)
			scribble(x)
			if !bytes.Equal(second, want) {
				t.Errorf("rule 3: Has: %s, want %s", shown(second), shown(want))
			}
		}
	}
}
