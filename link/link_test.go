package link

import (
	"math"
	"math/rand"
	"slices"
	"strconv"
	"strings"
	"testing"

	"fairlead/api"
	"fairlead/frame"
	"fairlead/msg"
)

// The document's numbers, written out.
const (
	mostFrames = 64
	mostBytes  = 1024
)

// both are the two ways.
var both = []bool{true, false}

// edges are numbers of frames, and of bits, at which something could go astray.
var edges = []int{
	math.MinInt, math.MinInt + 1, math.MinInt32, -65, -64, -8, -2, -1, 0, 1, 2, 7, 8, 9, 62, 63, 64, 65, 126, 127, 128, 129,
	8191, 8192, 8193, math.MaxInt32, math.MaxUint32, math.MaxInt - 64, math.MaxInt - 1, math.MaxInt,
}

// scattered is a text of so many bytes, the same each time.
func scattered(size int, seed uint32) string {
	b := make([]byte, size)
	for i := range b {
		seed = seed*1664525 + 1013904223
		b[i] = byte(seed >> 24)
	}
	return string(b)
}

// names are texts of so many frames, each one another one.
func names(many int, first string) []string {
	var l []string
	for n := range many {
		l = append(l, first+strconv.Itoa(n))
	}
	return l
}

func mustSend(t *testing.T, l *Link, up bool, texts ...string) {
	t.Helper()
	for _, text := range texts {
		many, others := l.Len(up), l.Len(!up)
		if !l.Send(up, []byte(text)) {
			t.Fatalf("no room for %q behind %d", text, many)
		}
		if l.Len(up) != many+1 || l.Len(!up) != others {
			t.Fatalf("of %d and %d, %d and %d came, when one was sent", many, others, l.Len(up), l.Len(!up))
		}
	}
}

// of is a link with these frames under way.
func of(t *testing.T, up, down []string) *Link {
	t.Helper()
	l := &Link{}
	mustSend(t, l, false, down...)
	mustSend(t, l, true, up...)
	return l
}

// drained are the frames of a row, which is empty then.
func drained(t *testing.T, l *Link, up bool) []string {
	t.Helper()
	var all []string
	for left := l.Len(up); left > 0; left-- {
		b, is := l.Take(up, 0)
		if !is || l.Len(up) != left-1 {
			t.Fatalf("of %d frames one is taken: %v, and %d are left", left, is, l.Len(up))
		}
		all = append(all, string(b))
	}
	if b, is := l.Take(up, 0); is || len(b) != 0 || l.Len(up) != 0 {
		t.Fatalf("of an empty row %q is taken, and %d are left", b, l.Len(up))
	}
	return all
}

// holds fails if a link has not just these frames under way. They are taken out of it.
func holds(t *testing.T, l *Link, up, down []string) {
	t.Helper()
	for _, way := range both {
		want := down
		if way {
			want = up
		}
		if l.Len(way) != len(want) {
			t.Fatalf("up %v: %d frames, not %d", way, l.Len(way), len(want))
		}
		if got := drained(t, l, way); !slices.Equal(got, want) {
			t.Fatalf("up %v: %q, not %q", way, got, want)
		}
	}
}

// without is a list of which one is left out, and a list of its own.
func without(l []string, n int) []string { return slices.Delete(slices.Clone(l), n, n+1) }

// with is a list with one more behind the others, and a list of its own.
func with(l []string, more string) []string { return append(slices.Clone(l), more) }

// other is a list of which one is another one, and a list of its own.
func other(l []string, n int, text string) []string {
	return slices.Replace(slices.Clone(l), n, n+1, text)
}

// bits are a text's, from its first byte on, in each from the lowest one on.
func bits(text string) []int {
	var l []int
	for _, c := range []byte(text) {
		for range 8 {
			l = append(l, int(c%2))
			c /= 2
		}
	}
	return l
}

// flipped is a frame by the words of P18.3: it is made of its bits again.
func flipped(text string, bit int) string {
	l := bits(text)
	at := 0
	if bit > 0 {
		at = bit % len(l)
	}
	l[at] = 1 - l[at]
	b := make([]byte, len(text))
	worth := []byte{1, 2, 4, 8, 16, 32, 64, 128}
	for i, is := range l {
		b[i/8] += byte(is) * worth[i%8]
	}
	return string(b)
}

// going is a frame under way.
type going struct {
	up   bool
	text string
}

// words is a link by the chapter's words: one list of the frames of both rows, as their numbers count them.
type words []going

func (w words) many(up bool) int {
	n := 0
	for _, g := range w {
		if g.up == up {
			n++
		}
	}
	return n
}

func (w *words) send(up bool, text string) bool {
	if w.many(up) == mostFrames || text == "" || len(text) > mostBytes {
		return false
	}
	at := len(*w)
	if up {
		at = w.many(true)
	}
	*w = slices.Insert(*w, at, going{up, text})
	return true
}

func (w *words) take(up bool, n int) (string, bool) {
	for at, g := range *w {
		if g.up != up {
			continue
		}
		if n == 0 {
			return g.text, w.drop(at)
		}
		n--
	}
	return "", false
}

func (w *words) drop(n int) bool {
	if n < 0 || n >= len(*w) {
		return false
	}
	*w = slices.Delete(*w, n, n+1)
	return true
}

func (w *words) twice(n int) bool {
	return n >= 0 && n < len(*w) && w.send((*w)[n].up, (*w)[n].text)
}

func (w *words) spoil(n, bit int) bool {
	if n < 0 || n >= len(*w) {
		return false
	}
	(*w)[n].text = flipped((*w)[n].text, bit)
	return true
}

// step is a call of a link.
type step struct {
	do     int
	up     bool
	n, bit int
	text   string
}

// What steps do.
const (
	doSend = iota
	doTake
	doDrop
	doTwice
	doSpoil
	doClear
	steps
)

// pair is a link and one by the words, that are asked the same. told counts the answers of each kind of step.
type pair struct {
	t    *testing.T
	l    Link
	w    words
	told [steps]map[bool]int
}

func newPair(t *testing.T) *pair {
	p := &pair{t: t}
	for do := range p.told {
		p.told[do] = map[bool]int{}
	}
	return p
}

func (p *pair) do(s step) {
	p.t.Helper()
	var got, want bool
	var b []byte
	var text string
	switch s.do {
	case doSend:
		got, want = p.l.Send(s.up, []byte(s.text)), p.w.send(s.up, s.text)
	case doTake:
		b, got = p.l.Take(s.up, s.n)
		text, want = p.w.take(s.up, s.n)
	case doDrop:
		got, want = p.l.Drop(s.n), p.w.drop(s.n)
	case doTwice:
		got, want = p.l.Twice(s.n), p.w.twice(s.n)
	case doSpoil:
		got, want = p.l.Spoil(s.n, s.bit), p.w.spoil(s.n, s.bit)
	case doClear:
		p.l.Clear()
		p.w = nil
	}
	if got != want || string(b) != text {
		p.t.Fatalf("%#v: %v, %q, not %v, %q", s, got, b, want, text)
	}
	if p.l.Len(true) != p.w.many(true) || p.l.Len(false) != p.w.many(false) {
		p.t.Fatalf("behind %#v: %d and %d, not %d and %d", s, p.l.Len(true), p.l.Len(false), p.w.many(true), p.w.many(false))
	}
	p.told[s.do][got]++
}

// end asks all that is under way in the end.
func (p *pair) end() {
	p.t.Helper()
	var up, down []string
	for _, g := range p.w {
		if g.up {
			up = append(up, g.text)
		} else {
			down = append(down, g.text)
		}
	}
	holds(p.t, &p.l, up, down)
	p.w = nil
}

// P18.1 to P18.3: the chapter's examples.
func TestExamples(t *testing.T) {
	l := &Link{}
	if !l.Send(true, []byte("a")) || !l.Send(true, []byte("b")) || !l.Twice(0) || l.Len(true) != 3 || l.Len(false) != 0 {
		t.Fatal("the row is a, b, a:", l.Len(true), l.Len(false))
	}
	if !l.Send(false, []byte("c")) || !l.Spoil(3, 0) || l.Spoil(4, 0) {
		t.Fatal("c is the frame 3 of both rows, and the last one")
	}
	if b, is := l.Take(true, 1); string(b) != "b" || !is {
		t.Errorf("%q, %v", b, is)
	}
	holds(t, l, []string{"a", "a"}, []string{"b"})
}

// passes sends a message over a link, and takes what is at the front of that row.
func passes(t *testing.T, l *Link, up bool, m api.Msg) api.Msg {
	t.Helper()
	body, wrong := msg.Encode(m)
	f, wrong2 := frame.Frame(body)
	if wrong != 0 || wrong2 != 0 {
		t.Fatal(m, wrong, wrong2)
	}
	mustSend(t, l, up, string(f))
	return comes(t, l, up)
}

// comes is the message at the front of a row.
func comes(t *testing.T, l *Link, up bool) api.Msg {
	t.Helper()
	var r frame.Reader
	b, is := l.Take(up, 0)
	r.Feed(b)
	body, found := r.Next()
	m, wrong := msg.Decode(body)
	if !is || !found || wrong != 0 {
		t.Fatal(is, found, wrong)
	}
	return m
}

// P18.2 to P18.4: the examples 6 to 9 of the whole, as far as a link goes.
func TestExamplesOfTheWhole(t *testing.T) {
	l := &Link{}
	open := api.Msg{Kind: api.MsgNotify, Epoch: 1, ID: 7, Task: 1, Data: api.Data{Nr: 2, Arch: api.Arch}, Path: "/f"}
	asks := api.Msg{Kind: api.MsgAsk, Epoch: 1, ID: 7}
	yes := api.Msg{Kind: api.MsgIs, Epoch: 1, ID: 7, Val: 1}
	answer := api.Msg{Kind: api.MsgFd, Epoch: 1, ID: 7, Val: 100}
	for _, x := range []struct {
		up bool
		m  api.Msg
	}{{true, open}, {false, asks}, {true, yes}, {false, answer}} {
		if m := passes(t, l, x.up, x.m); m != x.m {
			t.Errorf("%#v comes, not %#v", m, x.m)
		}
	}
	// An answer that comes twice, and another message behind both.
	body, _ := msg.Encode(answer)
	f, _ := frame.Frame(body)
	mustSend(t, l, true, "x")
	mustSend(t, l, false, string(f))
	if !l.Twice(1) || passes(t, l, false, api.Msg{Kind: api.MsgHello, Epoch: 2}) != answer || comes(t, l, false) != answer {
		t.Error("the answer does not come twice")
	}
	if m := comes(t, l, false); m != (api.Msg{Kind: api.MsgHello, Epoch: 2}) {
		t.Errorf("behind both answers %#v comes", m)
	}
	holds(t, l, []string{"x"}, nil)
}

// P18.1 to P18.3: a link is begun as its zero value: both rows are empty, and nothing befalls a frame.
func TestZero(t *testing.T) {
	var first Link
	for _, l := range []*Link{&first, {}, new(Link)} {
		for _, n := range edges {
			for _, up := range both {
				if b, is := l.Take(up, n); len(b) != 0 || is || l.Len(up) != 0 {
					t.Errorf("Take(%v, %d): %q, %v, %d", up, n, b, is, l.Len(up))
				}
			}
			for _, bit := range edges {
				if l.Spoil(n, bit) {
					t.Errorf("Spoil(%d, %d)", n, bit)
				}
			}
			if l.Drop(n) || l.Twice(n) {
				t.Errorf("%d befalls what is not there", n)
			}
		}
		holds(t, l, nil, nil)
		l.Clear()
		holds(t, l, nil, nil)
		mustSend(t, l, true, "a")
		holds(t, l, []string{"a"}, nil)
	}
}

// P18.1 and R2: nothing, nil or empty, is not sent; nor is what has more than 1024 bytes.
func TestSizesThatAreNotSent(t *testing.T) {
	sizes := [][]byte{nil, {}, make([]byte, 0, 9), []byte("abc")[:0], []byte("abc")[3:]}
	for _, n := range []int{1025, 1026, 2047, 2048, 2049, 65535, 65536, 65537, 65536 + 1024, 1 << 20} {
		sizes = append(sizes, make([]byte, n))
	}
	for _, b := range sizes {
		for _, up := range both {
			if l := of(t, nil, nil); l.Send(up, b) || l.Len(up) != 0 || l.Len(!up) != 0 {
				t.Errorf("%d bytes are sent", len(b))
			}
			l := of(t, []string{"a", "b"}, []string{"c"})
			if l.Send(up, b) {
				t.Errorf("%d bytes are sent", len(b))
			}
			holds(t, l, []string{"a", "b"}, []string{"c"})
			l = of(t, names(64, "u"), names(64, "d"))
			if l.Send(up, b) {
				t.Errorf("%d bytes are sent", len(b))
			}
			holds(t, l, names(64, "u"), names(64, "d"))
		}
	}
}

// P18.1: each size from 1 to 1024, of scattered bytes, of the least and of the greatest.
func TestSizesThatAreSent(t *testing.T) {
	for _, up := range both {
		l := &Link{}
		for n := 1; n <= mostBytes; n++ {
			texts := []string{scattered(n, uint32(n)), strings.Repeat("\x00", n), strings.Repeat("\xff", n)}
			mustSend(t, l, up, texts...)
			if got := drained(t, l, up); !slices.Equal(got, texts) {
				t.Fatalf("of %d bytes another frame comes", n)
			}
		}
	}
}

// P18.1: each byte alone, and among others.
func TestEachByte(t *testing.T) {
	l := &Link{}
	for c := range 256 {
		one := string([]byte{byte(c)})
		mustSend(t, l, true, one)
		mustSend(t, l, false, "\x00"+one+"\xff")
		holds(t, l, []string{one}, []string{"\x00" + one + "\xff"})
	}
}

// P18.1: a row has room for 64 frames, and the other one, whatever it has, for as many.
func TestFullRow(t *testing.T) {
	for _, up := range both {
		for _, others := range []int{0, 1, 63, 64} {
			l := &Link{}
			mustSend(t, l, !up, names(others, "o")...)
			mustSend(t, l, up, names(mostFrames, "f")...)
			for range 3 {
				if l.Send(up, []byte("more")) || l.Len(up) != 64 || l.Len(!up) != others {
					t.Fatal("the 65th frame:", l.Len(up), l.Len(!up))
				}
			}
			mustSend(t, l, !up, names(64-others, "p")...)
			if l.Send(!up, []byte("more")) {
				t.Error("the 65th frame of the other row")
			}
			if got := drained(t, l, !up); !slices.Equal(got, append(names(others, "o"), names(64-others, "p")...)) {
				t.Errorf("the other row: %q", got)
			}
			if got := drained(t, l, up); !slices.Equal(got, names(64, "f")) {
				t.Errorf("the row: %q", got)
			}
		}
	}
}

// P18.1: 64 frames of 1024 bytes in both rows.
func TestMostBytes(t *testing.T) {
	var up, down []string
	for n := range mostFrames {
		up = append(up, scattered(mostBytes, uint32(n)))
		down = append(down, scattered(mostBytes, uint32(n+1000)))
	}
	l := of(t, up, down)
	if l.Send(true, []byte("a")) || l.Send(false, []byte("a")) {
		t.Error("there is room")
	}
	holds(t, l, up, down)
}

// P18.1 to P18.3: a full row has room for one again, when one is taken or lost, wherever it stood.
func TestRoomAgain(t *testing.T) {
	for _, n := range []int{0, 1, 31, 62, 63} {
		up, down := names(64, "u"), names(64, "d")
		l := of(t, up, down)
		b, is := l.Take(true, n)
		if string(b) != up[n] || !is || l.Send(false, []byte("x")) || !l.Send(true, []byte("new")) || l.Send(true, []byte("x")) {
			t.Errorf("one that is taken at %d: %q, %v", n, b, is)
		}
		up = with(without(up, n), "new")
		if !l.Drop(64+n) || l.Send(true, []byte("x")) || !l.Send(false, []byte("old")) || l.Send(false, []byte("x")) {
			t.Errorf("one that is lost at %d", n)
		}
		holds(t, l, up, with(without(down, n), "old"))
	}
}

// P18.1: Len only tells: asked again, it says the same, and changes nothing.
func TestLenChangesNothing(t *testing.T) {
	l := of(t, names(3, "u"), names(64, "d"))
	for range 3 {
		if l.Len(true) != 3 || l.Len(false) != 64 {
			t.Fatal(l.Len(true), l.Len(false))
		}
	}
	holds(t, l, names(3, "u"), names(64, "d"))
}

// P18.2: each frame of rows of each size; what is behind it moves up, and the other row stays as it is.
func TestTakeEach(t *testing.T) {
	for many := range mostFrames + 1 {
		row, others := names(many, "f"), names(many%5, "o")
		for n := range many {
			l := of(t, row, others)
			if b, is := l.Take(true, n); string(b) != row[n] || !is || l.Len(true) != many-1 {
				t.Fatalf("up, %d of %d: %q, %v", n, many, b, is)
			}
			holds(t, l, without(row, n), others)
			l = of(t, others, row)
			if b, is := l.Take(false, n); string(b) != row[n] || !is || l.Len(false) != many-1 {
				t.Fatalf("down, %d of %d: %q, %v", n, many, b, is)
			}
			holds(t, l, others, without(row, n))
		}
	}
}

// P18.2 and R1: where there is none, nothing is told, and nothing changes; the numbers are those of one row alone.
func TestTakeWhatIsNotThere(t *testing.T) {
	for _, many := range []int{0, 1, 2, 3, 63, 64} {
		for _, others := range []int{0, 1, 5, 64} {
			for _, n := range append([]int{many, many + 1, many + others, many + others - 1}, edges...) {
				if n >= 0 && n < many {
					continue
				}
				l := of(t, names(many, "f"), names(others, "o"))
				if b, is := l.Take(true, n); len(b) != 0 || is {
					t.Errorf("up, %d of %d: %q, %v", n, many, b, is)
				}
				holds(t, l, names(many, "f"), names(others, "o"))
				l = of(t, names(others, "o"), names(many, "f"))
				if b, is := l.Take(false, n); len(b) != 0 || is {
					t.Errorf("down, %d of %d: %q, %v", n, many, b, is)
				}
				holds(t, l, names(others, "o"), names(many, "f"))
			}
		}
	}
}

// P18.2: the same number again and again, and frames from the back on.
func TestTakeAgain(t *testing.T) {
	row := names(64, "f")
	for _, up := range both {
		for _, at := range []int{0, 1, 30, 62, 63} {
			l := &Link{}
			mustSend(t, l, up, row...)
			for n := at; n < 64; n++ {
				if b, is := l.Take(up, at); string(b) != row[n] || !is {
					t.Errorf("the frame %d: %q, %v", n, b, is)
				}
			}
			if b, is := l.Take(up, at); len(b) != 0 || is || l.Len(up) != at {
				t.Errorf("there is %q at %d still", b, at)
			}
			for n := at - 1; n >= 0; n-- {
				if b, is := l.Take(up, n); string(b) != row[n] || !is || l.Len(up) != n {
					t.Errorf("from the back on, the frame %d: %q, %v", n, b, is)
				}
			}
		}
	}
}

// shapes are how many frames both rows have, in tests of what befalls frames.
var shapes = [][2]int{{0, 0}, {1, 0}, {0, 1}, {1, 1}, {2, 0}, {0, 2}, {2, 3}, {3, 1}, {5, 7}, {63, 64}, {64, 63}, {64, 0}, {0, 64}, {1, 64}, {64, 1}, {64, 64}}

// eachOfBoth calls a test with each frame of links of each shape: number is that of both rows, n that of its own row.
func eachOfBoth(t *testing.T, test func(number int, up bool, n int, ups, downs []string)) {
	t.Helper()
	for _, s := range shapes {
		ups, downs := names(s[0], "u"), names(s[1], "d")
		for n := range ups {
			test(n, true, n, ups, downs)
		}
		for n := range downs {
			test(s[0]+n, false, n, ups, downs)
		}
	}
}

// P18.3: Drop of each frame of both rows.
func TestDropEach(t *testing.T) {
	eachOfBoth(t, func(number int, up bool, n int, ups, downs []string) {
		l := of(t, ups, downs)
		if !l.Drop(number) {
			t.Fatalf("%d of %d and %d is not there", number, len(ups), len(downs))
		}
		if up {
			holds(t, l, without(ups, n), downs)
		} else {
			holds(t, l, ups, without(downs, n))
		}
	})
}

// P18.3: Twice of each frame of both rows: it stands at the end of its row too, if that has room.
func TestTwiceOfEach(t *testing.T) {
	eachOfBoth(t, func(number int, up bool, n int, ups, downs []string) {
		l := of(t, ups, downs)
		isRoom := up && len(ups) < 64 || !up && len(downs) < 64
		if l.Twice(number) != isRoom {
			t.Fatalf("%d of %d and %d: not %v", number, len(ups), len(downs), isRoom)
		}
		switch {
		case !isRoom:
			holds(t, l, ups, downs)
		case up:
			holds(t, l, with(ups, ups[n]), downs)
		default:
			holds(t, l, ups, with(downs, downs[n]))
		}
	})
}

// P18.3: Spoil of each frame of both rows.
func TestSpoilEach(t *testing.T) {
	eachOfBoth(t, func(number int, up bool, n int, ups, downs []string) {
		l := of(t, ups, downs)
		if !l.Spoil(number, number) {
			t.Fatalf("%d of %d and %d is not there", number, len(ups), len(downs))
		}
		if up {
			holds(t, l, other(ups, n, flipped(ups[n], number)), downs)
		} else {
			holds(t, l, ups, other(downs, n, flipped(downs[n], number)))
		}
	})
}

// P18.3 and R1: where there is none, nothing befalls it, and nothing changes.
func TestNothingBefallsWhatIsNotThere(t *testing.T) {
	for _, s := range shapes {
		ups, downs := names(s[0], "u"), names(s[1], "d")
		all := s[0] + s[1]
		l := of(t, ups, downs)
		for _, n := range append([]int{all, all + 1, all + s[0], all + s[1] + 1, 2*all + 1, -all - 1}, edges...) {
			if n >= 0 && n < all {
				continue
			}
			if l.Drop(n) || l.Twice(n) || l.Spoil(n, 0) || l.Spoil(n, -1) || l.Spoil(n, math.MaxInt) {
				t.Errorf("%d of %d and %d befalls something", n, s[0], s[1])
			}
		}
		holds(t, l, ups, downs)
	}
}

// P18.3: Drop again and again: from the front on first those of the row up go, then those of the row down.
func TestDropAgain(t *testing.T) {
	ups, downs := names(64, "u"), names(64, "d")
	for n := range 128 {
		l := of(t, ups, downs)
		for range n {
			if !l.Drop(0) {
				t.Fatal("there is none")
			}
		}
		holds(t, l, ups[min(n, 64):], downs[max(n-64, 0):])
		l = of(t, ups, downs)
		for back := range n {
			if !l.Drop(127 - back) {
				t.Fatal("there is none")
			}
		}
		holds(t, l, ups[:min(128-n, 64)], downs[:max(64-n, 0)])
	}
}

// P18.3: of both numbers that a frame has behind a change of the row up, the later one is asked.
func TestNumbersMove(t *testing.T) {
	l := of(t, []string{"a", "b"}, []string{"c", "d"})
	if !l.Twice(0) || !l.Drop(3) { // a, b, a and c, d
		t.Fatal("there is none")
	}
	if _, is := l.Take(true, 1); !is || !l.Twice(2) { // a, a and d
		t.Fatal("there is none")
	}
	if !l.Drop(0) || !l.Spoil(1, 0) || l.Drop(3) { // a and e, d
		t.Fatal("there is none, or one more")
	}
	holds(t, l, []string{"a"}, []string{"e", "d"})
}

// P18.3: Twice of one frame, till its row is full, while the other row stays as it is; then again, when one was lost.
func TestTwiceTillFull(t *testing.T) {
	for _, up := range both {
		l := &Link{}
		mustSend(t, l, !up, "x", "y")
		mustSend(t, l, up, "a", "b")
		b := 1
		if !up {
			b = 3
		}
		for many := 2; many < 64; many++ {
			if !l.Twice(b) || l.Len(up) != many+1 || l.Len(!up) != 2 {
				t.Fatal(many, l.Len(up), l.Len(!up))
			}
		}
		for range 3 {
			if l.Twice(b) || l.Twice(b-1) || l.Len(up) != 64 || l.Len(!up) != 2 {
				t.Fatal("a full row has room:", l.Len(up), l.Len(!up))
			}
		}
		if !l.Drop(b) || !l.Twice(b-1) || l.Twice(b-1) {
			t.Error("there is no room for one, or for more")
		}
		if got := drained(t, l, up); !slices.Equal(got, append(append([]string{"a"}, slices.Repeat([]string{"b"}, 62)...), "a")) {
			t.Errorf("%q", got)
		}
		if got := drained(t, l, !up); !slices.Equal(got, []string{"x", "y"}) {
			t.Errorf("the other row: %q", got)
		}
	}
}

// P18.3: each bit of frames, by its own number, by those that come to the same, and turned back.
func TestEachBit(t *testing.T) {
	for _, text := range []string{"\x00", "\xff", "c", "\x01\x80", scattered(3, 9), scattered(17, 5), strings.Repeat("\x00", 20)} {
		size := 8 * len(text)
		for bit := range size {
			want := []byte(text)
			want[bit/8] ^= []byte{1, 2, 4, 8, 16, 32, 64, 128}[bit%8]
			for _, same := range []int{bit, bit + size, bit + 2*size, bit + 1000*size, math.MaxInt/size*size - size + bit} {
				l := of(t, []string{"a", text}, []string{"b"})
				if !l.Spoil(1, same) {
					t.Fatal("there is none")
				}
				holds(t, l, []string{"a", string(want)}, []string{"b"})
				l = of(t, []string{"a"}, []string{"b", text})
				if !l.Spoil(2, bit) || !l.Spoil(2, same) {
					t.Fatal("there is none")
				}
				holds(t, l, []string{"a"}, []string{"b", text})
			}
		}
	}
}

// P18.3: bits at the edges of frames of several sizes, the longest among them; one below 0 counts as 0.
func TestBitsAtEdges(t *testing.T) {
	for _, x := range []struct {
		size, bit int
		want      string // the byte that is another one, where all were 0
		at        int
	}{
		{1, 0, "\x01", 0}, {1, 1, "\x02", 0}, {1, 7, "\x80", 0}, {1, 8, "\x01", 0}, {1, 15, "\x80", 0}, {1, 16, "\x01", 0},
		{1, -1, "\x01", 0}, {1, -7, "\x01", 0}, {1, -8, "\x01", 0}, {1, math.MinInt, "\x01", 0}, {1, math.MaxInt, "\x80", 0},
		{2, 7, "\x80", 0}, {2, 8, "\x01", 1}, {2, 15, "\x80", 1}, {2, 16, "\x01", 0}, {2, 24, "\x01", 1}, {2, -1, "\x01", 0},
		{3, 24, "\x01", 0}, {3, 23, "\x80", 2}, {3, 47, "\x80", 2}, {3, math.MaxInt, "\x80", 0}, // 2^63 - 1 is 7 modulo 24
		{512, 4095, "\x80", 511}, {512, 4096, "\x01", 0},
		{1024, 0, "\x01", 0}, {1024, 8184, "\x01", 1023}, {1024, 8191, "\x80", 1023}, {1024, 8192, "\x01", 0},
		{1024, 8193, "\x02", 0}, {1024, 16383, "\x80", 1023}, {1024, -8192, "\x01", 0}, {1024, math.MinInt, "\x01", 0},
		{1024, math.MaxInt, "\x80", 1023},
	} {
		text := strings.Repeat("\x00", x.size)
		want := text[:x.at] + x.want + text[x.at+1:]
		for _, up := range both {
			l := &Link{}
			mustSend(t, l, up, text)
			if !l.Spoil(0, x.bit) {
				t.Fatal("there is none")
			}
			if b, is := l.Take(up, 0); string(b) != want || !is {
				t.Errorf("the bit %d of %d bytes: % x", x.bit, x.size, b)
			}
		}
	}
}

// P18.3: several bits of one frame, and one bit of several.
func TestSeveralBits(t *testing.T) {
	l := of(t, []string{"\x00\x00", "\xff\xff"}, []string{"\x00"})
	for _, bit := range []int{0, 9, 15, 9, 9, 16, 0, -5, 7} { // 0 four times, 9 thrice
		if !l.Spoil(0, bit) {
			t.Fatal("there is none")
		}
	}
	for n := range 3 {
		if !l.Spoil(n, 3) {
			t.Fatal("there is none")
		}
	}
	holds(t, l, []string{"\x88\x82", "\xf7\xff"}, []string{"\x08"})
}

// P18.3 and R3: frames that were once the same, by Twice or since the same bytes were sent, are spoilt one by one.
func TestSpoilOneOfTwo(t *testing.T) {
	for _, text := range []string{"c", "\x00\x00\x00", scattered(1024, 4)} {
		for first := range 4 {
			for _, bit := range []int{0, 3, 7, 8*len(text) - 1} {
				sent := []byte(text)
				l := &Link{}
				if !l.Send(true, sent) || !l.Send(true, sent) || !l.Twice(0) || !l.Twice(2) || !l.Send(false, sent) || !l.Twice(4) {
					t.Fatal("no room")
				}
				up := slices.Repeat([]string{text}, 4)
				if !l.Spoil(first, bit) || !l.Spoil(5, bit) || string(sent) != text {
					t.Fatal("there is none, or what was sent is another one")
				}
				spoilt := flipped(text, bit)
				holds(t, l, other(up, first, spoilt), []string{text, spoilt})
			}
		}
	}
}

// P18.3: a frame that was spoilt is there twice as it is then.
func TestTwiceOfSpoilt(t *testing.T) {
	l := of(t, []string{"c"}, []string{"c"})
	if !l.Spoil(0, 0) || !l.Twice(0) || !l.Spoil(0, 0) || !l.Twice(0) || !l.Spoil(1, 1) { // b and c: c, b, c
		t.Fatal("there is none")
	}
	holds(t, l, []string{"c", "`", "c"}, []string{"c"})
}

// P18.3: Clear of links of each shape, and a link that is used on behind it.
func TestClear(t *testing.T) {
	for _, s := range shapes {
		l := of(t, names(s[0], "u"), names(s[1], "d"))
		l.Clear()
		if l.Len(true) != 0 || l.Len(false) != 0 || l.Drop(0) || l.Twice(0) || l.Spoil(0, 0) {
			t.Fatal("there is something left of", s)
		}
		holds(t, l, nil, nil)
		l.Clear()
		mustSend(t, l, false, names(64, "e")...)
		mustSend(t, l, true, names(64, "v")...)
		if l.Send(true, []byte("x")) || l.Send(false, []byte("x")) || !l.Drop(0) || !l.Drop(63) || !l.Twice(0) {
			t.Error("the rows are not full, or have nothing")
		}
		holds(t, l, with(names(64, "v")[1:], "v1"), names(64, "e")[1:])
	}
}

// P18.1 to P18.3: all short rows of steps follow the words.
func TestShortScriptsFollowTheWords(t *testing.T) {
	all := []step{
		{do: doSend, up: true, text: "a"}, {do: doSend, text: "bc"}, {do: doTake, up: true}, {do: doTake}, {do: doTake, up: true, n: 1},
		{do: doTake, n: 1}, {do: doDrop}, {do: doDrop, n: 1}, {do: doTwice}, {do: doTwice, n: 1}, {do: doSpoil}, {do: doSpoil, n: 1, bit: 9},
		{do: doClear},
	}
	const length = 4
	scripts := 1
	for range length {
		scripts *= len(all)
	}
	for script := range scripts {
		p := newPair(t)
		p.do(step{do: doSend, up: script%2 == 0, text: "d"})
		for range length {
			p.do(all[script%len(all)])
			script /= len(all)
		}
		p.end()
	}
}

// anyStep is a step; most is how often frames are sent among 100.
func anyStep(chance *rand.Rand, w words, most int) step {
	s := step{do: 1 + chance.Intn(4), up: chance.Intn(2) == 0, n: chance.Intn(len(w) + 2), bit: chance.Intn(9000)}
	switch at := chance.Intn(100); {
	case at < most:
		s.do = doSend
		s.text = scattered(1+chance.Intn(5), chance.Uint32())
	case at >= 98:
		s.n, s.bit = edges[chance.Intn(len(edges))], edges[chance.Intn(len(edges))]
	}
	switch chance.Intn(300) {
	case 0:
		s = step{do: doClear}
	case 1:
		s.text = scattered(chance.Intn(2)*1025, chance.Uint32())
	case 2:
		s.text = scattered(1023+chance.Intn(2), chance.Uint32())
	}
	return s
}

// P18.1 to P18.3: scattered steps follow the words, of rows that have few frames, and of such as are often full.
func TestScattered(t *testing.T) {
	var told [steps]map[bool]int
	for do := range told {
		told[do] = map[bool]int{}
	}
	for seed := range int64(400) {
		chance := rand.New(rand.NewSource(seed))
		p := newPair(t)
		for range 20 + chance.Intn(500) {
			p.do(anyStep(chance, p.w, []int{30, 45, 60, 85}[seed%4]))
		}
		p.end()
		for do := range told {
			for is, many := range p.told[do] {
				told[do][is] += many
			}
		}
	}
	for do := range doClear {
		if told[do][true] < 1000 || told[do][false] < 100 {
			t.Error(do, "is told", told[do])
		}
	}
}

// P18.4: taken from the front, frames come in the order in which they were sent, whatever is lost, and whenever it is taken.
func TestOrder(t *testing.T) {
	for seed := range int64(100) {
		chance := rand.New(rand.NewSource(seed))
		l := &Link{}
		next := map[bool]int{}
		last := map[bool]int{true: -1, false: -1}
		take := func(up bool) {
			b, is := l.Take(up, 0)
			if n, err := strconv.Atoi(string(b)); is && (err != nil || n <= last[up]) {
				t.Fatalf("%q comes behind %d", b, last[up])
			} else if is {
				last[up] = n
			}
		}
		for range 1000 {
			up := chance.Intn(2) == 0
			switch chance.Intn(5) {
			case 0:
				take(up)
			case 1:
				l.Drop(chance.Intn(80))
			default:
				if l.Send(up, []byte(strconv.Itoa(next[up]))) {
					next[up]++
				}
			}
		}
		for range 64 {
			take(true)
			take(false)
		}
		if l.Len(true) != 0 || l.Len(false) != 0 {
			t.Fatal(l.Len(true), l.Len(false))
		}
	}
}

// P18.4: without loss all that was sent comes, in its order; while it is taken too.
func TestNothingIsLostByItself(t *testing.T) {
	for _, up := range both {
		l := &Link{}
		sent, came := 0, 0
		for round := range 500 {
			for range round % 40 {
				if l.Send(up, []byte(strconv.Itoa(sent))) {
					sent++
				}
			}
			for range round % 37 {
				if b, is := l.Take(up, 0); is {
					if string(b) != strconv.Itoa(came) {
						t.Fatalf("%q comes, not %d", b, came)
					}
					came++
				}
			}
			if l.Len(up) != sent-came || l.Len(!up) != 0 {
				t.Fatal(l.Len(up), sent, came)
			}
		}
		if sent < 5000 {
			t.Error("only", sent, "were sent")
		}
	}
}

// P18.4: what comes was sent, in the same row, unless it was spoilt; without Twice and Spoil no more often.
func TestWhatComesWasSent(t *testing.T) {
	for seed := range int64(200) {
		chance := rand.New(rand.NewSource(seed))
		doubles := seed%2 == 0
		l := &Link{}
		sent, came := map[going]int{}, map[going]int{}
		for range 600 {
			up, n := chance.Intn(2) == 0, chance.Intn(100)
			switch chance.Intn(6) {
			case 0:
				if b, is := l.Take(up, n%64); is {
					came[going{up, string(b)}]++
				}
			case 1:
				l.Drop(n)
			case 2:
				if doubles {
					l.Twice(n)
				}
			default:
				g := going{up, scattered(1+n%2, uint32(chance.Intn(200)))}
				if l.Send(up, []byte(g.text)) {
					sent[g]++
				}
			}
		}
		for _, up := range both {
			for _, text := range drained(t, l, up) {
				came[going{up, text}]++
			}
		}
		for g, many := range came {
			if sent[g] == 0 || !doubles && many > sent[g] {
				t.Errorf("%#v was sent %d times, and comes %d times", g, sent[g], many)
			}
		}
	}
}

// R3: what is done with bytes that were handed in, changes nothing, and these stay as they are.
func TestHandedInIsNotShared(t *testing.T) {
	for _, up := range both {
		l := &Link{}
		array := []byte("abcdefgh")
		for from := range 4 {
			if !l.Send(up, array[from:from+2]) {
				t.Fatal("no room")
			}
		}
		if !l.Twice(0) || !l.Spoil(0, 0) || !l.Spoil(1, 15) || string(array) != "abcdefgh" {
			t.Errorf("what was handed in is %q", array)
		}
		clear(array)
		want := []string{"`b", "b\xe3", "cd", "de", "ab"}
		if got := drained(t, l, up); !slices.Equal(got, want) {
			t.Errorf("%q", got)
		}
		if string(array) != strings.Repeat("\x00", 8) {
			t.Errorf("what was handed in is %q", array)
		}
	}
}

// R3: the same bytes are handed in again and again, another text in them each time.
func TestTheSameSliceIsHandedIn(t *testing.T) {
	l := &Link{}
	b := make([]byte, 3)
	for n := range 64 {
		copy(b, "u"+strconv.Itoa(10+n))
		l.Send(true, b)
		b[0] = 'd'
		l.Send(false, b)
	}
	for n := range 64 {
		up, _ := l.Take(true, 0)
		down, _ := l.Take(false, 0)
		if string(up) != "u"+strconv.Itoa(10+n) || string(down) != "d"+strconv.Itoa(10+n) {
			t.Fatalf("%q and %q", up, down)
		}
	}
}

// R3: what is told is the caller's own: what is done with it changes nothing.
func TestToldIsNotShared(t *testing.T) {
	for at := range 3 {
		l := of(t, []string{"abcd", "efgh"}, []string{"ijkl"})
		if !l.Twice(at) {
			t.Fatal("no room")
		}
		up, n := at < 2, at%2
		first, is := l.Take(up, n)
		if !is {
			t.Fatal("there is none")
		}
		text := string(first)
		for range 2 {
			clear(first[:cap(first)])
			first = append(first, "xxxxxxxx"...)
		}
		second, is := l.Take(up, l.Len(up)-1)
		if string(second) != text || !is {
			t.Errorf("%q, not %q", second, text)
		}
		want := []string{"abcd", "efgh", "ijkl"}
		for _, left := range append(drained(t, l, true), drained(t, l, false)...) {
			if left == text || !slices.Contains(want, left) {
				t.Errorf("%q is left", left)
			}
		}
	}
}

// R3: what was told stays, whatever befalls the link afterwards.
func TestToldStays(t *testing.T) {
	l := &Link{}
	var told [][]byte
	for n := range 200 {
		mustSend(t, l, n%2 == 0, "f"+strconv.Itoa(n))
		if !l.Twice(0) {
			t.Fatal("no room")
		}
		b, is := l.Take(n%2 == 0, 0)
		if !is || !l.Spoil(0, n) || !l.Send(true, b) {
			t.Fatal("there is none, or no room")
		}
		told = append(told, b)
		l.Clear()
	}
	for n, b := range told {
		if string(b) != "f"+strconv.Itoa(n) {
			t.Errorf("the frame %d is %q now", n, b)
		}
	}
}

// R4: links have nothing in common, and the same calls the same answers.
func TestLinksStandAlone(t *testing.T) {
	a, b := of(t, names(3, "a"), names(2, "x")), of(t, names(3, "a"), names(2, "x"))
	c := of(t, names(64, "c"), nil)
	c.Clear()
	a.Spoil(1, 4)
	a.Drop(4)
	a.Twice(0)
	holds(t, b, names(3, "a"), names(2, "x"))
	holds(t, c, nil, nil)
	holds(t, a, []string{"a0", "q1", "a2", "a0"}, []string{"x0"})
}

// A link that is copied as a value goes its own way.
func TestCopiesStandAlone(t *testing.T) {
	a := of(t, names(3, "u"), names(3, "d"))
	b := *a
	if !a.Drop(0) || !a.Spoil(0, 5) || !a.Twice(0) || !a.Send(false, []byte("e")) || !b.Drop(5) || !b.Twice(1) || !b.Send(true, []byte("f")) {
		t.Fatal("there is none, or no room")
	}
	holds(t, a, []string{"U1", "u2", "U1"}, []string{"d0", "d1", "d2", "e"})
	holds(t, &b, []string{"u0", "u1", "u2", "u1", "f"}, []string{"d0", "d1"})
}

// P0: calls at all arguments end, of links of each shape.
func TestAllCallsEnd(t *testing.T) {
	for _, s := range shapes {
		for _, n := range edges {
			p := newPair(t)
			for do := range doClear {
				for _, bit := range edges {
					for len(p.w) < s[0]+s[1] {
						p.do(step{do: doSend, up: p.w.many(true) < s[0], text: scattered(1+len(p.w), 7)})
					}
					if do > doSend {
						p.do(step{do: do, n: n, bit: bit, up: bit%2 == 0})
					}
				}
			}
			p.end()
		}
	}
}

// What a link keeps is what is under way, not what ever was.
func TestNothingMoreIsKept(t *testing.T) {
	for seed := range int64(50) {
		chance := rand.New(rand.NewSource(seed))
		p := newPair(t)
		for range 500 {
			p.do(anyStep(chance, p.w, 60))
		}
		p.end()
		if p.l != (Link{}) {
			t.Fatal("something is kept")
		}
	}
}
