package frame

import (
	"bytes"
	"hash/adler32"
	"math/rand"
	"slices"
	"strings"
	"testing"

	"fairlead/api"
)

// The document's numbers, written out.
const (
	wrongLong  = 4
	wrongEmpty = 10

	mostBody = 512
)

// sizes are the lengths of bodies at which something could go astray.
var sizes = []int{1, 2, 3, 7, 8, 9, 254, 255, 256, 257, 258, 510, 511, 512}

// row is a text of so many bytes, scattered, but the same each time.
func row(size int, seed uint32) string {
	b := make([]byte, size)
	for i := range b {
		seed = seed*1664525 + 1013904223
		b[i] = byte(seed >> 24)
	}
	return string(b)
}

// start are the first four bytes of a frame, by its body's length.
func start(length int) string {
	return string([]byte{0x66, 0x4c, byte(length / 256), byte(length % 256)})
}

// laidSum are a sum's bytes, the highest first.
func laidSum(s uint32) string {
	return string([]byte{byte(s / 16777216), byte(s / 65536), byte(s / 256), byte(s)})
}

// built is a frame by the chapter's words. Its sum is that of the library, which is made otherwise than the project's.
func built(body string) string {
	first := start(len(body))
	return first + laidSum(adler32.Checksum([]byte(first[2:]+body))) + body
}

// greater begins as a frame of such a body does, but its sum is none's.
func greater(length int) string { return start(length) + "\xff\xff\xff\xff" }

// words is a Reader by the words of P16.2.
type words struct {
	wait string
	lost int
}

// stands is the body of the frame with which bytes begin: each length is tried.
func (w *words) stands() (string, bool) {
	if !strings.HasPrefix(w.wait, "fL") {
		return "", false
	}
	for n := 1; n <= mostBody && 8+n <= len(w.wait); n++ {
		if body := w.wait[8 : 8+n]; strings.HasPrefix(w.wait, start(n)) && strings.HasPrefix(w.wait, built(body)) {
			return body, true
		}
	}
	return "", false
}

// might is asked where no frame stands: what is there of the first four bytes is held against each length's.
func (w *words) might() bool {
	there := w.wait[:min(4, len(w.wait))]
	if there[0] != 'f' { // no length begins otherwise: most bytes are told so without trying them all
		return false
	}
	for n := 1; n <= mostBody; n++ {
		if strings.HasPrefix(start(n), there) {
			return len(w.wait) < 8 || len(w.wait) < n+8
		}
	}
	return false
}

func (w *words) next() (string, bool) {
	for w.wait != "" {
		if body, is := w.stands(); is {
			w.wait = w.wait[8+len(body):]
			return body, true
		}
		if w.might() {
			return "", false
		}
		w.wait = w.wait[1:]
		w.lost++
	}
	return "", false
}

// pair is a Reader and one by the words, that are asked the same; fed and found count the bytes of both.
type pair struct {
	t          *testing.T
	r          Reader
	w          words
	fed, found int
}

func (p *pair) feed(s string) {
	p.t.Helper()
	p.r.Feed([]byte(s))
	p.w.wait += s
	p.fed += len(s)
	p.counts()
}

// counts asks how many bytes are lost and left, and that these, and those of frames that were found, are all.
func (p *pair) counts() {
	p.t.Helper()
	if p.r.Lost() != p.w.lost || p.r.Left() != len(p.w.wait) {
		p.t.Fatalf("lost %d and left %d, not %d and %d", p.r.Lost(), p.r.Left(), p.w.lost, len(p.w.wait))
	}
	if p.found+p.r.Lost()+p.r.Left() != p.fed {
		p.t.Fatalf("of %d bytes %d were found, %d are lost, %d left", p.fed, p.found, p.r.Lost(), p.r.Left())
	}
}

func (p *pair) next() (string, bool) {
	p.t.Helper()
	got, is := p.r.Next()
	want, wanted := p.w.next()
	if string(got) != want || is != wanted {
		p.t.Fatalf("Next: %q, %v, not %q, %v", got, is, want, wanted)
	}
	if is {
		p.found += 8 + len(got)
	}
	p.counts()
	return string(got), is
}

// all asks till there is nothing more, and once again.
func (p *pair) all() []string {
	p.t.Helper()
	var l []string
	for {
		body, is := p.next()
		if !is {
			break
		}
		l = append(l, body)
	}
	if _, is := p.next(); is {
		p.t.Fatal("behind a false there is a body, though nothing was fed")
	}
	return l
}

// read asks a Reader till there is nothing more.
func read(r *Reader) []string {
	var l []string
	for {
		body, is := r.Next()
		if !is {
			return l
		}
		l = append(l, string(body))
	}
}

// want asks what a Reader finds in bytes, and how many are lost and left.
func want(t *testing.T, text string, lost, left int, bodies ...string) {
	t.Helper()
	var r Reader
	r.Feed([]byte(text))
	if got := read(&r); !slices.Equal(got, bodies) || r.Lost() != lost || r.Left() != left {
		t.Fatalf("of %q: %q, lost %d, left %d; not %q, %d, %d", text, got, r.Lost(), r.Left(), bodies, lost, left)
	}
	p := pair{t: t}
	p.feed(text)
	p.all()
}

func mustFrame(t *testing.T, body string) string {
	t.Helper()
	f, wrong := Frame([]byte(body))
	if wrong != api.OK || string(f) != built(body) {
		t.Fatalf("Frame of %d bytes: %q, %v", len(body), f, wrong)
	}
	return string(f)
}

func TestNumbersAreNamed(t *testing.T) {
	if api.ErrLong != wrongLong || api.ErrEmpty != wrongEmpty || api.OK != 0 || api.MaxBody != mostBody {
		t.Error("the document's numbers have other names")
	}
}

// The chapter's examples.
func TestExamples(t *testing.T) {
	// Of 0, 1 and 97: low is 1, 2, 99; high is 1, 3, 102.
	a := "\x66\x4c\x00\x01\x00\x66\x00\x63a"
	if f, wrong := Frame([]byte("a")); string(f) != a || wrong != api.OK {
		t.Errorf("of a: %q, %v", f, wrong)
	}
	if f, wrong := Frame(nil); f != nil || wrong != wrongEmpty {
		t.Errorf("of nothing: %q, %v", f, wrong)
	}
	want(t, "xxxxxxx"+a, 7, 0, "a")
}

// The document's examples 6 to 8, as far as frames go: an answer that comes twice is found twice, and one that is spoiled
// on its way is not found. (What it changes is not a frame's to say.)
func TestExamplesOfTheWhole(t *testing.T) {
	answer := "\x05" + "\x00\x00\x00\x00\x00\x00\x00\x01" + "\x00\x00\x00\x00\x00\x00\x00\x07" + "\x00\x64"
	f := mustFrame(t, answer)
	want(t, f, 0, 0, answer)
	want(t, f+f, 0, 0, answer, answer)
	for bit := range 8 * len(f) {
		spoiled := []byte(f)
		spoiled[bit/8] ^= 1 << (bit % 8)
		var r Reader
		r.Feed(spoiled)
		if l := read(&r); len(l) != 0 {
			t.Errorf("spoiled at the bit %d, there is %q", bit, l)
		}
	}
}

// P16.1, R1 and R2: an empty body, nil or not.
func TestFrameOfNothing(t *testing.T) {
	for _, body := range [][]byte{nil, {}, make([]byte, 0, 9), []byte("abc")[:0], []byte("abc")[3:]} {
		if f, wrong := Frame(body); len(f) != 0 || wrong != wrongEmpty {
			t.Errorf("Frame of nothing: %q, %v", f, wrong)
		}
	}
}

// P16.1: each length that a body may have, of scattered bytes, of the least and of the greatest.
func TestFrameOfEachLength(t *testing.T) {
	for n := 1; n <= mostBody; n++ {
		for _, body := range []string{row(n, uint32(n)), strings.Repeat("\x00", n), strings.Repeat("\xff", n)} {
			if f := mustFrame(t, body); len(f) != 8+n || f[8:] != body {
				t.Fatalf("Frame of %d bytes: %q", n, f)
			}
		}
	}
}

// P16.1: the length stands by two bytes, the highest first.
func TestFrameHasTheLength(t *testing.T) {
	for _, x := range []struct {
		n    int
		want string
	}{
		{1, "fL\x00\x01"}, {2, "fL\x00\x02"}, {255, "fL\x00\xff"}, {256, "fL\x01\x00"}, {257, "fL\x01\x01"},
		{511, "fL\x01\xff"}, {512, "fL\x02\x00"},
	} {
		if f, wrong := Frame(make([]byte, x.n)); len(f) < 4 || string(f[:4]) != x.want || wrong != api.OK {
			t.Errorf("of %d bytes: %q, %v", x.n, f, wrong)
		}
	}
}

// P16.1: the sum is of the length's bytes, too, and stands by four bytes, the highest first.
func TestFrameHasTheSum(t *testing.T) {
	for _, x := range []struct {
		body, want string
	}{
		{"\x00", "\x00\x05\x00\x02"},                      // low 1, 2, 2; high 1, 3, 5
		{"\xff", "\x01\x04\x01\x01"},                      // low 1, 2, 257; high 1, 3, 260
		{"\x00\x00", "\x00\x0a\x00\x03"},                  // low 1, 3, 3, 3; high 1, 4, 7, 10
		{"ab", "\x01\x2e\x00\xc6"},                        // low 1, 3, 100, 198; high 1, 4, 104, 302
		{strings.Repeat("\x00", 256), "\x02\x04\x00\x02"}, // low 2, 2, and so on; high 2, 4, and 256 times 2 more
	} {
		f, wrong := Frame([]byte(x.body))
		if wrong != api.OK || len(f) != 8+len(x.body) || string(f[4:8]) != x.want {
			t.Errorf("of %d bytes: % x, %v; not the sum % x", len(x.body), f, wrong, x.want)
		}
	}
}

// P16.1 and R1: a body that is too long, by one byte and by so many that its length's two bytes would tell a lesser one.
func TestFrameOfTooMuch(t *testing.T) {
	for _, n := range []int{513, 514, 767, 768, 1024, 65535, 65536, 65537, 65536 + 512, 1 << 20} {
		if f, wrong := Frame(make([]byte, n)); len(f) != 0 || wrong != wrongLong {
			t.Errorf("of %d bytes: %d bytes, %v", n, len(f), wrong)
		}
	}
}

// P16.1: bodies that are one byte, each one, and that have bytes of a frame's start in them.
func TestFrameOfEachByte(t *testing.T) {
	for c := range 256 {
		for _, body := range []string{string([]byte{byte(c)}), "fL\x00\x01" + string([]byte{byte(c)})} {
			want(t, mustFrame(t, body), 0, 0, body)
		}
	}
}

// P16.2: a Reader is begun as its zero value.
func TestNeverFed(t *testing.T) {
	var r Reader
	fresh := &Reader{}
	for range 3 {
		for _, x := range []*Reader{&r, fresh, new(Reader)} {
			if body, is := x.Next(); len(body) != 0 || is || x.Lost() != 0 || x.Left() != 0 {
				t.Error(body, is, x.Lost(), x.Left())
			}
		}
	}
}

// P16.2 and R2: nothing, nil or empty, makes nothing wait, at whatever time it is fed.
func TestFedNothing(t *testing.T) {
	f := built("ab")
	for cut := range len(f) + 1 {
		for _, nothing := range [][]byte{nil, {}, make([]byte, 0, 9), []byte(f)[:0]} {
			var r Reader
			r.Feed(nothing)
			r.Feed([]byte("x" + f[:cut]))
			r.Feed(nothing)
			if r.Left() != 1+cut || r.Lost() != 0 {
				t.Fatal(r.Left(), r.Lost())
			}
			early := read(&r)
			r.Feed(nothing)
			if body, is := r.Next(); len(body) != 0 || is {
				t.Fatal(body, is)
			}
			r.Feed([]byte(f[cut:]))
			r.Feed(nothing)
			if l := append(early, read(&r)...); !slices.Equal(l, []string{"ab"}) || r.Lost() != 1 || r.Left() != 0 {
				t.Fatal(l, r.Lost(), r.Left())
			}
		}
	}
}

// P16.2: what is fed waits, and nothing is lost, till Next is called; and Next goes no further than to one frame.
func TestNextGoesStepByStep(t *testing.T) {
	var r Reader
	text := "xyz" + built("a") + "uv" + built("bc") + "w"
	r.Feed([]byte(text))
	for _, x := range []struct {
		body       string
		is         bool
		lost, left int
	}{
		{"a", true, 3, len(text) - 3 - 9},
		{"bc", true, 5, 1},
		{"", false, 6, 0},
		{"", false, 6, 0},
	} {
		body, is := r.Next()
		if string(body) != x.body || is != x.is || r.Lost() != x.lost || r.Left() != x.left {
			t.Errorf("%q, %v, lost %d, left %d; not %v", body, is, r.Lost(), r.Left(), x)
		}
	}
	r.Feed([]byte("xyz"))
	if r.Lost() != 6 || r.Left() != 3 {
		t.Error("lost by Feed alone:", r.Lost(), r.Left())
	}
}

// P16.2 and P16.3: frames one behind the other, of each length, with nothing between.
func TestFramesOneBehindTheOther(t *testing.T) {
	var text strings.Builder
	var bodies []string
	for n := 1; n <= mostBody; n++ {
		body := row(n, uint32(7*n))
		bodies = append(bodies, body)
		text.WriteString(mustFrame(t, body))
	}
	var r Reader
	r.Feed([]byte(text.String()))
	waits := text.Len()
	for _, body := range bodies {
		got, is := r.Next()
		waits -= 8 + len(body)
		if string(got) != body || !is || r.Lost() != 0 || r.Left() != waits {
			t.Fatalf("of %d bytes: %q, %v, lost %d, left %d", len(body), got, is, r.Lost(), r.Left())
		}
	}
	if got, is := r.Next(); len(got) != 0 || is || r.Lost() != 0 || r.Left() != 0 {
		t.Error(got, is, r.Lost(), r.Left())
	}
}

// P16.2 and P16.3: the same frame again and again.
func TestTheSameFrameAgain(t *testing.T) {
	for _, n := range sizes {
		body := row(n, 5)
		want(t, strings.Repeat(built(body), 4), 0, 0, body, body, body, body)
	}
}

// noise are bytes that are no frame, nor wait for more, whatever stands behind them.
var noise = []string{
	"", "x", "xxxxxxx", "L", "fx", "ffx", "fL\x03", "fL\xff", "fL\x00\x00", "fL\x02\x01", "fLfLfLx", "\x00\x00\x00\x00\x00\x00\x00\x00",
	"fL\x00\x01\x00\x00\x00\x00a", "fL\x00\x01\x00\x66\x00\x63b", "Lf\x00\x01\x00\x66\x00\x63a", "xL\x00\x01\x00\x66\x00\x63a",
	"\xff\xff\xff", "f\x00L\x00\x01",
}

// P16.2: other bytes ahead, between and behind.
func TestFramesAmongOtherBytes(t *testing.T) {
	for _, n := range sizes {
		body := row(n, 9)
		f := built(body)
		for _, ahead := range noise {
			for _, behind := range noise {
				want(t, ahead+f+behind, len(ahead)+len(behind), 0, body)
			}
			want(t, ahead+f+ahead+f+f+ahead, 3*len(ahead), 0, body, body, body)
		}
	}
}

// P16.2: bytes of which each one may be the first of a frame, but is none.
func TestFirstBytesAlone(t *testing.T) {
	f := built("a")
	for _, n := range []int{1, 2, 3, 8, 100} {
		want(t, strings.Repeat("f", n)+f, n, 0, "a")
		want(t, strings.Repeat("fL", n)+f, 2*n, 0, "a")
		want(t, strings.Repeat("fL\x00\x00", n)+f, 4*n, 0, "a")
		want(t, strings.Repeat("fL\x02", n)+f, 3*n, 0, "a")
		want(t, strings.Repeat("f", n), n-1, 1)
		want(t, strings.Repeat("fL", n), 2*n-2, 2)
		want(t, strings.Repeat("fL\x02", n), 3*n-3, 3)
	}
	want(t, strings.Repeat("L", 9), 9, 0)
}

// P16.2: another first or second byte: it is lost at once, whatever is to come.
func TestOtherMarks(t *testing.T) {
	for c := range 256 {
		one := string([]byte{byte(c)})
		if one != "f" {
			want(t, one, 1, 0)
			want(t, one+"L\x00\x01", 4, 0)
			want(t, one+built("a")[1:], 9, 0)
		}
		if one != "L" && one != "f" {
			want(t, "f"+one, 2, 0)
			want(t, "f"+one+"\x00\x01", 4, 0)
			want(t, "f"+one+built("a")[2:], 9, 0)
		}
	}
	want(t, "f", 0, 1)
	want(t, "fL", 0, 2)
	want(t, "ff", 1, 1)
	want(t, "ffL", 1, 2)
}

// P16.2: one byte of the length alone: 0, 1 or 2 might be a frame's.
func TestOneByteOfTheLength(t *testing.T) {
	for c := range 256 {
		text := "fL" + string([]byte{byte(c)})
		switch {
		case c <= 2:
			want(t, text, 0, 3)
		case c == 'f':
			want(t, text, 2, 1)
		default:
			want(t, text, 3, 0)
		}
	}
}

// P16.2: each length that two bytes can tell, with nothing behind, with a whole head, and with so many bytes as it says.
func TestEachLength(t *testing.T) {
	for n := range 65536 {
		var r Reader
		r.Feed([]byte(start(n)))
		body, is := r.Next()
		might := 1 <= n && n <= mostBody
		if len(body) != 0 || is || might != (r.Lost() == 0) || r.Lost()+r.Left() != 4 {
			t.Fatalf("a length of %d: %q, %v, lost %d, left %d", n, body, is, r.Lost(), r.Left())
		}
	}
	for _, n := range []int{0, 1, 2, 255, 256, 257, 511, 512, 513, 514, 767, 768, 1024, 0x0200 + 0x66, 0x6600, 0x664c, 65535} {
		p := pair{t: t}
		p.feed(start(n))
		p.all()
		p.feed("xxxx")
		p.all()
		p.feed(strings.Repeat("x", max(0, n-1)))
		p.all()
		p.feed("xfL")
		p.all()
	}
}

// P16.2: a length of 0 or above 512 is none, even with the sum that belongs to it and all its bytes.
func TestLengthsThatMayNotBe(t *testing.T) {
	for _, n := range []int{0, 513, 514, 600, 768, 1024, 4096, 65535} {
		text := built(strings.Repeat("x", n))
		want(t, text, len(text), 0)
		want(t, text[:min(len(text), 8)], 8, 0)
		want(t, text[:4], 4, 0)
		want(t, text+built("a"), len(text), 0, "a")
	}
}

// P16.2: bytes that are a frame but for one of them, at each place, and each byte there.
func TestOneByteIsAnother(t *testing.T) {
	for _, body := range []string{"a", "ab", "fL", "fL\x00\x01", "\x00", "\xff\xff", row(20, 3), built("z")} {
		f := built(body)
		for at := range len(f) {
			for c := range 256 {
				spoiled := f[:at] + string([]byte{byte(c)}) + f[at+1:]
				for _, behind := range []string{"", f, strings.Repeat("x", 600)} {
					p := pair{t: t}
					p.feed(spoiled)
					first := p.all()
					if found := slices.Contains(first, body); found != (spoiled == f) {
						t.Fatalf("%q, found: %v", spoiled, found)
					}
					p.feed(behind)
					p.all()
				}
			}
		}
	}
}

// P16.3: of the longest frames and of those around 256 too, by some bytes at each place; so with other frames behind.
func TestOneByteOfLongFramesIsAnother(t *testing.T) {
	for _, n := range []int{255, 256, 257, 511, 512} {
		body := row(n, uint32(n))
		f := built(body)
		for at := range len(f) {
			for _, turned := range []byte{1, 2, 3, 128, 255} {
				spoiled := []byte(f)
				spoiled[at] ^= turned
				var r Reader
				r.Feed(spoiled)
				r.Feed([]byte(strings.Repeat("x", 1000)))
				if l := read(&r); slices.Contains(l, body) {
					t.Fatalf("of %d bytes, at %d: found as it was", n, at)
				}
			}
		}
	}
}

// P16.2: a sum that is the body's alone, or stands the other way about, is none.
func TestOtherSums(t *testing.T) {
	for _, body := range []string{"a", "ab", row(30, 4), row(512, 4)} {
		right := adler32.Checksum([]byte(start(len(body))[2:] + body))
		sums := []uint32{
			0, 1, ^uint32(0), ^right, right + 1, right - 1, right<<16 | right>>16, right<<8 | right>>24,
			adler32.Checksum([]byte(body)), adler32.Checksum([]byte(start(len(body)) + body)), adler32.Checksum([]byte(body + start(len(body))[2:])),
		}
		for _, s := range sums {
			text := start(len(body)) + laidSum(s) + body
			p := pair{t: t}
			p.feed(text)
			if l := p.all(); s != right && len(l) != 0 {
				t.Errorf("the sum %#x in the place of %#x: %q", s, right, l)
			}
		}
	}
}

// P16.2: a frame within what looked like a greater one is found, once that is known to be none, and not earlier.
func TestWithinAGreaterOne(t *testing.T) {
	f := built("a")
	for length := len(f); length <= mostBody; length++ {
		head, behind := greater(length), strings.Repeat("x", length-len(f))
		var r Reader
		r.Feed([]byte(head + f + behind[:max(0, len(behind)-1)]))
		if len(behind) > 0 {
			if body, is := r.Next(); len(body) != 0 || is || r.Lost() != 0 || r.Left() != 8+length-1 {
				t.Fatalf("within one of %d: %q, %v, lost %d, left %d", length, body, is, r.Lost(), r.Left())
			}
			r.Feed([]byte("x"))
		}
		if l := read(&r); !slices.Equal(l, []string{"a"}) || r.Lost() != 8+len(behind) || r.Left() != 0 {
			t.Fatalf("within one of %d: %q, lost %d, left %d", length, l, r.Lost(), r.Left())
		}
	}
}

// P16.2: frames at each place of what looked like a greater one, and beyond its end.
func TestAtEachPlaceOfAGreaterOne(t *testing.T) {
	f := built("ab")
	for length := 1; length <= 40; length++ {
		for at := range length + 1 {
			ahead := greater(length)[:4] + strings.Repeat("x", 4+at)
			want(t, ahead+f+strings.Repeat("x", 40), len(ahead)+40, 0, "ab")
			p := pair{t: t}
			for _, c := range []byte(ahead + f + f) {
				p.feed(string([]byte{c}))
				p.all()
			}
		}
	}
}

// P16.2: frames that are cut off, with whole ones behind.
func TestCutOff(t *testing.T) {
	for _, n := range []int{1, 9, 17, 200, 512} {
		long := built(row(n, 6))
		for cut := range len(long) {
			p := pair{t: t}
			p.feed(long[:cut])
			for i := range 70 {
				p.feed(built(row(1+i%12, uint32(i))))
			}
			p.all()
			p.feed(strings.Repeat("x", 600))
			p.all()
		}
	}
}

// P16.2: a frame's body is not looked into, be it frames itself.
func TestFramesInFrames(t *testing.T) {
	one := "a"
	var all []string
	for len(one) <= mostBody {
		all = append(all, one)
		one = mustFrame(t, one)
	}
	want(t, one, 0, 0, all[len(all)-1])
	for i := len(all) - 1; i > 0; i-- {
		want(t, all[i], 0, 0, all[i-1])
	}
	three := built("x") + built("y") + built("z")
	want(t, built(three), 0, 0, three)
	want(t, three, 0, 0, "x", "y", "z")
}

// P16.2: greater ones within greater ones, each of which is known to be none at another time.
func TestGreaterOnesInARow(t *testing.T) {
	for _, lengths := range [][]int{{512, 300, 100}, {20, 200, 500}, {100, 100, 100}, {512, 512, 512}, {1, 2, 3}, {30, 9, 1}} {
		text := ""
		for _, n := range lengths {
			text += greater(n)
		}
		p := pair{t: t}
		for _, c := range []byte(text + built("inside") + strings.Repeat("x", 1000)) {
			p.feed(string([]byte{c}))
			p.all()
		}
		want(t, text+built("inside")+strings.Repeat("x", 1000), len(text)+1000, 0, "inside")
	}
}

// P16.2: bytes that end within a frame, at each place of it: nothing is told and nothing lost, and it is found later.
func TestEndsWithinAFrame(t *testing.T) {
	for _, n := range sizes {
		body := row(n, uint32(3*n))
		f := built(body)
		for cut := range len(f) {
			var r Reader
			r.Feed([]byte("x" + built("ahead") + f[:cut]))
			if got, is := r.Next(); string(got) != "ahead" || !is {
				t.Fatal(got, is)
			}
			for range 3 {
				if got, is := r.Next(); len(got) != 0 || is || r.Lost() != 1 || r.Left() != cut {
					t.Fatalf("%d of %d bytes: %q, %v, lost %d, left %d", cut, len(f), got, is, r.Lost(), r.Left())
				}
			}
			r.Feed([]byte(f[cut:]))
			if got, is := r.Next(); string(got) != body || !is || r.Lost() != 1 || r.Left() != 0 {
				t.Fatalf("once the rest behind %d of %d bytes has come: %q, %v, lost %d, left %d", cut, len(f), got, is, r.Lost(), r.Left())
			}
		}
	}
}

// streams are bytes of each kind: frames, and what is none, one behind the other.
func streams() []string {
	f, g, h := built("a"), built(row(60, 1)), built(row(512, 2))
	l := []string{
		"", "x", "f", "fL", f, f + g + h, h + g + f, "xxxxxxx" + f, "xxxfLy" + f + f, f + "fL\x00", f + "fL\x01\x02", f + h[:200], h[:7],
		greater(20) + f + "xx" + f + g, greater(512) + strings.Repeat(f, 70), h[:100] + g + g + strings.Repeat(f, 60), "ffffLLLL" + g + "fLfL" + f + "f",
		strings.Join(noise, f), strings.Join(noise, ""), built(f+g) + g + "fL\x00\x00" + f,
	}
	for seed := range uint32(4) {
		l = append(l, row(1500, seed), scattered(rand.New(rand.NewSource(int64(seed))), 1500))
	}
	return l
}

// scattered are so many bytes or more, of those with which frames begin, of pieces of frames, and of whole ones.
func scattered(chance *rand.Rand, size int) string {
	var text strings.Builder
	for text.Len() < size {
		f := built(row(1+chance.Intn(1+chance.Intn(60)), chance.Uint32()))
		switch chance.Intn(8) {
		case 0, 1:
			text.WriteString(f)
		case 2:
			text.WriteString(f[:chance.Intn(len(f))])
		case 3:
			at := chance.Intn(len(f))
			text.WriteString(f[:at] + string([]byte{byte(chance.Intn(256))}) + f[at+1:])
		case 4:
			text.WriteString(greater(chance.Intn(60)))
		case 5:
			text.WriteString(start(chance.Intn(600)))
		default:
			for range chance.Intn(6) {
				text.WriteByte("fL\x00\x01\x02\x03x"[chance.Intn(7)])
			}
		}
	}
	return text.String()
}

// P16.3: in whatever pieces bytes are handed in, and whenever Next is called between, all is the same in the end.
func TestPieces(t *testing.T) {
	for _, text := range streams() {
		whole := pair{t: t}
		whole.feed(text)
		bodies := whole.all()
		for size := 1; size <= min(len(text), 530); size++ {
			for between := range 4 { // never, once, till there is nothing more, now and then
				var r Reader
				var got []string
				count := 0
				for piece := range slices.Chunk([]byte(text), size) {
					r.Feed(piece)
					count++
					switch {
					case between == 1 || between == 3 && count%3 == 0:
						if body, is := r.Next(); is {
							got = append(got, string(body))
						}
					case between == 2:
						got = append(got, read(&r)...)
					}
				}
				got = append(got, read(&r)...)
				if !slices.Equal(got, bodies) || r.Lost() != whole.r.Lost() || r.Left() != whole.r.Left() {
					t.Fatalf("%d bytes in pieces of %d: %d bodies, lost %d, left %d; not %d, %d, %d", len(text), size,
						len(got), r.Lost(), r.Left(), len(bodies), whole.r.Lost(), whole.r.Left())
				}
			}
		}
	}
}

// P16.3: parted at each place into two, with Next called between or not.
func TestPartedAtEachPlace(t *testing.T) {
	for _, text := range streams() {
		var whole Reader
		whole.Feed([]byte(text))
		bodies := read(&whole)
		for cut := range len(text) + 1 {
			for _, asks := range []bool{false, true} {
				var r Reader
				var got []string
				r.Feed([]byte(text[:cut]))
				if asks {
					got = read(&r)
				}
				r.Feed([]byte(text[cut:]))
				got = append(got, read(&r)...)
				if !slices.Equal(got, bodies) || r.Lost() != whole.Lost() || r.Left() != whole.Left() {
					t.Fatalf("%d bytes parted at %d: %d bodies, lost %d, left %d", len(text), cut, len(got), r.Lost(), r.Left())
				}
			}
		}
	}
}

// P16.2 and P16.3: scattered bytes in scattered pieces, step by step as the words say; all bytes are found, lost or left.
func TestScattered(t *testing.T) {
	for seed := range int64(300) {
		chance := rand.New(rand.NewSource(seed))
		text := scattered(chance, 50+chance.Intn(1500))
		p := pair{t: t}
		for text != "" {
			n := min(len(text), chance.Intn(1+chance.Intn(300)))
			p.feed(text[:n])
			text = text[n:]
			switch chance.Intn(3) {
			case 0:
				p.next()
			case 1:
				p.all()
			}
		}
		p.all()
	}
}

// P16.2: all short texts of the bytes with which frames begin.
func TestShortTextsFollowTheWords(t *testing.T) {
	const letters = "fL\x00\x01\x02\x03"
	texts := []string{""}
	for range 5 {
		var longer []string
		for _, text := range texts {
			for _, c := range []byte(letters) {
				longer = append(longer, text+string([]byte{c}))
			}
		}
		for _, text := range longer {
			p := pair{t: t}
			p.feed(text)
			p.all()
			p.feed(built("a"))
			p.all()
		}
		texts = longer
	}
}

// R3: what is handed in stays as it is, with the room behind it, and may be changed afterwards.
func TestHandedInIsNotShared(t *testing.T) {
	room := []byte("abcdefghijklmnopqrstuvwxyz")
	kept := bytes.Clone(room)
	f, wrong := Frame(room[:3])
	if wrong != api.OK || !bytes.Equal(room, kept) {
		t.Fatal(wrong, room)
	}
	room[0] = 'X'
	if string(f) != built("abc") {
		t.Error("the frame went along with its body")
	}
	clear(f)
	if string(room[:3]) != "Xbc" {
		t.Error("the body went along with its frame")
	}
	text := []byte(built("ab") + built("cd") + "fL\x00")
	kept = bytes.Clone(text)
	var r Reader
	r.Feed(text[:13])
	r.Feed(text[13:])
	if !bytes.Equal(text, kept) {
		t.Error("Feed changed what was handed in")
	}
	clear(text)
	first, _ := r.Next()
	second, _ := r.Next()
	if string(first) != "ab" || string(second) != "cd" || r.Lost() != 0 || r.Left() != 3 {
		t.Error("what was changed behind Feed is seen:", first, second, r.Lost(), r.Left())
	}
	if !bytes.Equal(text, make([]byte, len(text))) {
		t.Error("Next changed what was handed in")
	}
}

// R3: a piece is handed in by the same slice again and again, as one who reads into it does.
func TestTheSameSliceIsHandedIn(t *testing.T) {
	text := built("ab") + "xx" + built(row(300, 1)) + built("cd")
	for size := 1; size <= len(text); size++ {
		var r Reader
		piece := make([]byte, size)
		for rest := text; rest != ""; {
			n := copy(piece, rest)
			rest = rest[n:]
			r.Feed(piece[:n])
			clear(piece)
		}
		if l := read(&r); !slices.Equal(l, []string{"ab", row(300, 1), "cd"}) || r.Lost() != 2 || r.Left() != 0 {
			t.Fatalf("by %d: %q, lost %d, left %d", size, l, r.Lost(), r.Left())
		}
	}
}

// R3: what is told is the caller's own: to be changed, and to be gone on with.
func TestToldIsNotShared(t *testing.T) {
	var r Reader
	f, _ := Frame([]byte("abc"))
	g, _ := Frame([]byte("abc"))
	r.Feed(f)
	r.Feed(f)
	r.Feed(f[:5])
	first, _ := r.Next()
	clear(first[:cap(first)])
	_ = append(first, "zzzzzzzzzzzzzzzzzzzzzzzzzzzzzzzz"...)
	second, is := r.Next()
	if string(second) != "abc" || !is {
		t.Fatal(second, is)
	}
	clear(second[:cap(second)])
	_ = append(second[:0], "zzzzzzzzzzzzzzzzzzzzzzzzzzzzzzzz"...)
	r.Feed(f[5:])
	third, is := r.Next()
	if string(third) != "abc" || !is || r.Lost() != 0 || r.Left() != 0 {
		t.Error(third, is, r.Lost(), r.Left())
	}
	r.Feed(g)
	if fourth, _ := r.Next(); string(third) != "abc" || string(fourth) != "abc" {
		t.Error("a body that was told is overwritten:", third, fourth)
	}
	clear(f[:cap(f)])
	if string(g) != built("abc") {
		t.Error("two frames share their bytes")
	}
	if again, _ := Frame([]byte("abc")); string(again) != built("abc") {
		t.Error("a frame that was changed is told again:", again)
	}
}

// R3: bodies that were told stay as they are, while the Reader goes on.
func TestToldStays(t *testing.T) {
	var r Reader
	var told [][]byte
	var bodies []string
	for i := range 400 {
		body := row(1+i%512, uint32(i))
		bodies = append(bodies, body)
		r.Feed([]byte("x" + built(body)))
		if i%3 != 0 {
			continue
		}
		for {
			b, is := r.Next()
			if !is {
				break
			}
			told = append(told, b)
		}
	}
	for i, b := range told {
		if string(b) != bodies[i] {
			t.Fatalf("the body %d is another one now", i)
		}
	}
}

// R4: Readers have nothing in common, and the same calls the same answers.
func TestReadersStandAlone(t *testing.T) {
	var r, s, u Reader
	f := built("abc")
	r.Feed([]byte(f[:6]))
	s.Feed([]byte("xx" + f))
	u.Feed([]byte(f[:6]))
	if got := read(&s); !slices.Equal(got, []string{"abc"}) || s.Lost() != 2 {
		t.Error(got, s.Lost())
	}
	for _, x := range []*Reader{&r, &u} {
		if x.Lost() != 0 || x.Left() != 6 {
			t.Error(x.Lost(), x.Left())
		}
		x.Feed([]byte(f[6:]))
		if got := read(x); !slices.Equal(got, []string{"abc"}) || x.Lost() != 0 || x.Left() != 0 {
			t.Error(got, x.Lost(), x.Left())
		}
	}
}

// Lost and Left only tell: asked again, they say the same, and change nothing.
func TestCountsChangeNothing(t *testing.T) {
	var r Reader
	r.Feed([]byte("xy" + built("a") + "fL"))
	for range 3 {
		if r.Lost() != 0 || r.Left() != 13 {
			t.Fatal(r.Lost(), r.Left())
		}
	}
	if got := read(&r); !slices.Equal(got, []string{"a"}) {
		t.Error(got)
	}
	for range 3 {
		if r.Lost() != 2 || r.Left() != 2 {
			t.Fatal(r.Lost(), r.Left())
		}
	}
}

// P0: many bytes, one at a time without Next between, then all at once: each call ends soon.
func TestManyBytes(t *testing.T) {
	var r Reader
	text := strings.Repeat("x"+built("ab")+"fL", 1<<15)
	for i := range len(text) {
		r.Feed([]byte(text[i : i+1]))
	}
	if l := read(&r); len(l) != 1<<15 || r.Lost() != 3<<15-2 || r.Left() != 2 {
		t.Error(len(l), r.Lost(), r.Left())
	}
	var dull Reader
	dull.Feed([]byte(strings.Repeat(start(mostBody), 1<<14)))
	if _, is := dull.Next(); is || dull.Lost()+dull.Left() != 4<<14 || dull.Left() != 516 {
		t.Error(is, dull.Lost(), dull.Left())
	}
}

// What a Reader keeps is what waits, not all that ever came.
func TestNothingMoreIsKept(t *testing.T) {
	var r Reader
	f := []byte(built(row(512, 3)))
	for range 20000 {
		r.Feed(f)
		r.Feed([]byte("noise"))
		read(&r)
	}
	if cap(r.waiting) > 1<<16 || r.Lost() != 100000 || r.Left() != 0 {
		t.Error(cap(r.waiting), r.Lost(), r.Left())
	}
}
