package pack

import (
	"bytes"
	"encoding/binary"
	"math"
	"strings"
	"testing"

	"fairlead/api"
)

// badSizes are sizes that no number has.
var badSizes = []int{math.MinInt, math.MinInt32, -256, -8, -1, 0, 9, 10, 16, 255, 256, 257, 264, math.MaxInt32, math.MaxInt}

// numbers are those at which a byte more is needed, with their neighbours.
func numbers() []uint64 {
	l := []uint64{0, 1, 2, 127, 128, 254, math.MaxUint64 - 1, math.MaxUint64, 0x0102030405060708, 0x8000000000000000}
	for size := 1; size <= 7; size++ {
		power := uint64(1) << (8 * size)
		l = append(l, power-2, power-1, power, power+1)
	}
	return l
}

// fits tells whether n is below 256 to the power of size, by dividing alone.
func fits(n uint64, size int) bool {
	for range size {
		n /= 256
	}
	return n == 0
}

// sizes are the texts' lengths that the tests ask about.
func sizes() []int { return []int{0, 1, 2, 9, 255, 256, 257, 32768, 65534, 65535} }

// text is one of so many bytes, which are not all letters.
func text(size int) string {
	b := make([]byte, size)
	for i := range b {
		b[i] = byte(i*i + i/3 + size)
	}
	return string(b)
}

// mustBe asks a Writer for its bytes.
func mustBe(t *testing.T, w *Writer, want []byte, wrong api.Errno) {
	t.Helper()
	b, e := w.Bytes()
	if !bytes.Equal(b, want) || e != wrong {
		t.Errorf("Bytes() = %.20v (%d), %d, not %.20v (%d), %d", b, len(b), e, want, len(want), wrong)
	}
}

// mustEnd asks a Reader how it ended.
func mustEnd(t *testing.T, r *Reader, want api.Errno) {
	t.Helper()
	if e := r.End(); e != want {
		t.Errorf("End() = %d, not %d", e, want)
	}
}

// mustStayWrong asks a Reader that has told something wrong all there is to ask.
func mustStayWrong(t *testing.T, r *Reader, want api.Errno) {
	t.Helper()
	for range 2 {
		for _, size := range append([]int{1, 2, 3, 8}, badSizes...) {
			if n := r.Num(size); n != 0 {
				t.Errorf("Num(%d) = %d, behind what is wrong", size, n)
			}
			mustEnd(t, r, want)
		}
		if s := r.Text(); s != "" {
			t.Errorf("Text() = %q, behind what is wrong", s)
		}
		mustEnd(t, r, want)
	}
}

// P2.1 and P2.2: the chapter's examples.
func TestExamples(t *testing.T) {
	var w Writer
	w.Num(258, 2)
	w.Text("ab")
	mustBe(t, &w, []byte{1, 2, 0, 2, 97, 98}, api.OK)

	var over Writer
	over.Num(256, 1)
	mustBe(t, &over, nil, api.ErrArg)

	r := Read([]byte{1, 2, 0})
	if n := r.Num(2); n != 258 {
		t.Error("Num(2) =", n)
	}
	if n := r.Num(2); n != 0 {
		t.Error("the second Num(2) =", n)
	}
	mustEnd(t, r, api.ErrShort)
}

// P2.1: a Writer is begun as its zero value, and has laid nothing then.
func TestWriterBegins(t *testing.T) {
	var w Writer
	mustBe(t, &w, nil, api.OK)
	mustBe(t, new(Writer), nil, api.OK)
	w.Num(7, 1)
	mustBe(t, &w, []byte{7}, api.OK)
}

// P2.1: every size that may be, by every number that does and doesn't need it.
func TestWriterNum(t *testing.T) {
	for _, n := range numbers() {
		for size := 1; size <= 8; size++ {
			var w Writer
			w.Num(n, size)
			if !fits(n, size) {
				mustBe(t, &w, nil, api.ErrArg)
				continue
			}
			mustBe(t, &w, binary.BigEndian.AppendUint64(nil, n)[8-size:], api.OK)
		}
	}
}

// P2.1: just 256 to the power of size, and one less, written out.
func TestWriterNumAtThePower(t *testing.T) {
	for _, x := range []struct {
		n     uint64
		size  int
		want  string
		wrong api.Errno
	}{
		{0, 1, "\x00", api.OK},
		{0, 8, "\x00\x00\x00\x00\x00\x00\x00\x00", api.OK},
		{1, 8, "\x00\x00\x00\x00\x00\x00\x00\x01", api.OK},
		{0xff, 1, "\xff", api.OK},
		{0x100, 1, "", api.ErrArg},
		{0x100, 2, "\x01\x00", api.OK},
		{0xffff, 2, "\xff\xff", api.OK},
		{0x10000, 2, "", api.ErrArg},
		{0xffffff, 3, "\xff\xff\xff", api.OK},
		{0x1000000, 3, "", api.ErrArg},
		{0x01020304, 4, "\x01\x02\x03\x04", api.OK},
		{0xffffffffffffff, 7, "\xff\xff\xff\xff\xff\xff\xff", api.OK},
		{0x100000000000000, 7, "", api.ErrArg},
		{0x0102030405060708, 8, "\x01\x02\x03\x04\x05\x06\x07\x08", api.OK},
		{math.MaxUint64, 8, "\xff\xff\xff\xff\xff\xff\xff\xff", api.OK},
		{math.MaxUint64, 1, "", api.ErrArg},
	} {
		var w Writer
		w.Num(x.n, x.size)
		mustBe(t, &w, []byte(x.want), x.wrong)
	}
}

// P2.1: a size that no number has.
func TestWriterBadSize(t *testing.T) {
	for _, size := range badSizes {
		for _, n := range []uint64{0, 1, math.MaxUint64} {
			var w Writer
			w.Num(5, 1)
			w.Num(n, size)
			mustBe(t, &w, nil, api.ErrArg)
		}
	}
}

// P2.1: a text is its length and its bytes, whatever these are.
func TestWriterText(t *testing.T) {
	for _, size := range sizes() {
		s := text(size)
		var w Writer
		w.Text(s)
		mustBe(t, &w, append([]byte{byte(size >> 8), byte(size)}, s...), api.OK)
	}
	var w Writer
	w.Text("\x00\xff\xfeä")
	w.Text("")
	mustBe(t, &w, []byte("\x00\x05\x00\xff\xfe\xc3\xa4\x00\x00"), api.OK)
}

// P2.1: a text that its length can't tell.
func TestWriterLongText(t *testing.T) {
	for _, size := range []int{65536, 65537, 65536 + 65535, 1 << 17} {
		var w Writer
		w.Num(1, 1)
		w.Text(text(size))
		mustBe(t, &w, nil, api.ErrLong)
	}
}

// P2.1: what was wrong first is told, whatever is laid or wrong behind it.
func TestWriterStaysWrong(t *testing.T) {
	long := strings.Repeat("x", 65536)
	wrongs := []struct {
		do   func(w *Writer)
		want api.Errno
	}{
		{func(w *Writer) { w.Num(0, 0) }, api.ErrArg},
		{func(w *Writer) { w.Num(0, -1) }, api.ErrArg},
		{func(w *Writer) { w.Num(0, 9) }, api.ErrArg},
		{func(w *Writer) { w.Num(256, 1) }, api.ErrArg},
		{func(w *Writer) { w.Text(long) }, api.ErrLong},
	}
	for _, first := range wrongs {
		for _, second := range wrongs {
			var w Writer
			w.Text("ahead")
			first.do(&w)
			mustBe(t, &w, nil, first.want)
			w.Num(1, 1)
			w.Text("behind")
			mustBe(t, &w, nil, first.want)
			second.do(&w)
			mustBe(t, &w, nil, first.want)
			w.Text("")
			mustBe(t, &w, nil, first.want)
		}
	}
}

// P2.1: Bytes may be asked again, and more be laid behind it; what it told stays as it was, and is the caller's (R3).
func TestBytesAreTheCallers(t *testing.T) {
	var w Writer
	w.Text("abcdefgh")
	w.Num(1, 1)
	first, _ := w.Bytes()
	first = append(first, 'x', 'y')
	again, _ := w.Bytes()
	w.Num(2, 1)
	if string(first) != "\x00\x08abcdefgh\x01xy" {
		t.Errorf("what was told is changed: %q", first)
	}
	first[2] = '!'
	again[3] = '!'
	mustBe(t, &w, []byte("\x00\x08abcdefgh\x01\x02"), api.OK)
	mustBe(t, &w, []byte("\x00\x08abcdefgh\x01\x02"), api.OK)
}

// P2.1 and R4: one Writer knows nothing of another.
func TestWritersAreApart(t *testing.T) {
	var a, b Writer
	a.Num(1, 1)
	b.Num(300, 1)
	a.Text("a")
	mustBe(t, &a, []byte{1, 0, 1, 'a'}, api.OK)
	mustBe(t, &b, nil, api.ErrArg)
	mustBe(t, new(Writer), nil, api.OK)
}

// P2.2: numbers of every size, the highest byte first, and each is gone then.
func TestReaderNum(t *testing.T) {
	for _, n := range numbers() {
		for size := 1; size <= 8; size++ {
			all := binary.BigEndian.AppendUint64(nil, n)
			b := append(bytes.Clone(all[8-size:]), 0xa5)
			want := n
			if size < 8 {
				want = n % (1 << (8 * size))
			}
			r := Read(b)
			if got := r.Num(size); got != want {
				t.Errorf("Num(%d) of %v = %#x, not %#x", size, b, got, want)
			}
			if got := r.Num(1); got != 0xa5 {
				t.Errorf("behind Num(%d) of %v stands %#x", size, b, got)
			}
			mustEnd(t, r, api.OK)
		}
	}
}

// P2.2: a size that no number has, with and without bytes that are left; ErrArg is named ahead of ErrShort.
func TestReaderBadSize(t *testing.T) {
	for _, size := range badSizes {
		for _, b := range [][]byte{nil, {1}, []byte(text(40)), []byte(text(300))} {
			r := Read(b)
			if n := r.Num(size); n != 0 {
				t.Errorf("Num(%d) = %d", size, n)
			}
			mustEnd(t, r, api.ErrArg)
			mustStayWrong(t, r, api.ErrArg)
		}
	}
}

// P2.2: fewer bytes are left than a number has.
func TestReaderShortNum(t *testing.T) {
	for size := 1; size <= 8; size++ {
		for left := range size {
			r := Read([]byte(strings.Repeat("\x07", 3+left)))
			if n := r.Num(3); n != 0x070707 {
				t.Errorf("Num(3) = %#x", n)
			}
			if n := r.Num(size); n != 0 {
				t.Errorf("Num(%d) of %d bytes = %#x", size, left, n)
			}
			mustEnd(t, r, api.ErrShort)
			mustStayWrong(t, r, api.ErrShort)
		}
		r := Read([]byte(strings.Repeat("\x07", size)))
		if n := r.Num(size); n == 0 {
			t.Errorf("Num(%d) of so many bytes = 0", size)
		}
		mustEnd(t, r, api.OK)
	}
}

// P2.2: a text of so many bytes, whatever these are.
func TestReaderText(t *testing.T) {
	for _, size := range sizes() {
		s := text(size)
		r := Read([]byte("\x01" + string([]byte{byte(size >> 8), byte(size)}) + s + "\x02"))
		if n := r.Num(1); n != 1 {
			t.Error("ahead of the text stands", n)
		}
		if got := r.Text(); got != s {
			t.Errorf("a text of %d bytes is read as %.20q (%d)", size, got, len(got))
		}
		if n := r.Num(1); n != 2 {
			t.Error("behind the text stands", n)
		}
		mustEnd(t, r, api.OK)
	}
}

// P2.2: fewer bytes are left than a text's length has, or than it tells.
func TestReaderShortText(t *testing.T) {
	for _, s := range []string{
		"", "\x00", "\x01", "\xff",
		"\x00\x01", "\x00\x02a", "\x01\x00", "\x01\x00" + text(255), "\x00\xff" + text(254),
		"\xff\xff", "\xff\xff" + text(65534), "\x80\x00abc",
	} {
		r := Read([]byte(s))
		if got := r.Text(); got != "" {
			t.Errorf("Text() of %.20q = %q", s, got)
		}
		mustEnd(t, r, api.ErrShort)
		mustStayWrong(t, r, api.ErrShort)
	}
}

// P2.2: what was wrong first is told, also where bytes would be left for what is asked behind it.
func TestReaderStaysWrong(t *testing.T) {
	r := Read([]byte("\x00\x09abcdefgh"))
	if s := r.Text(); s != "" {
		t.Errorf("Text() = %q", s)
	}
	mustStayWrong(t, r, api.ErrShort)

	r = Read([]byte("\x00\x01a\x00\x01b"))
	if s := r.Text(); s != "a" {
		t.Errorf("Text() = %q", s)
	}
	r.Num(9)
	mustStayWrong(t, r, api.ErrArg)

	r = Read([]byte("abc"))
	r.Num(4)
	r.Num(0)
	mustStayWrong(t, r, api.ErrShort)
}

// P2.2: bytes that are left; to ask for the end takes none of them, and is nothing wrong.
func TestReaderEnd(t *testing.T) {
	r := Read([]byte{1, 2, 0, 1, 'x'})
	mustEnd(t, r, api.ErrForm)
	if n := r.Num(1); n != 1 {
		t.Error("the first:", n)
	}
	mustEnd(t, r, api.ErrForm)
	mustEnd(t, r, api.ErrForm)
	if n := r.Num(1); n != 2 {
		t.Error("the second:", n)
	}
	if s := r.Text(); s != "x" {
		t.Errorf("the text: %q", s)
	}
	mustEnd(t, r, api.OK)
	mustEnd(t, r, api.OK)
	if n := r.Num(1); n != 0 {
		t.Error("behind the end:", n)
	}
	mustEnd(t, r, api.ErrShort)
}

// P2.2 and R2: no bytes, nil or empty; and a Reader that nobody has given any.
func TestReaderOfNothing(t *testing.T) {
	mustEnd(t, Read(nil), api.OK)
	mustEnd(t, Read([]byte{}), api.OK)
	mustEnd(t, new(Reader), api.OK)
	for _, r := range []*Reader{Read(nil), Read([]byte{}), new(Reader)} {
		if n := r.Num(1); n != 0 {
			t.Error("Num(1) =", n)
		}
		mustStayWrong(t, r, api.ErrShort)
	}
}

// R3: bytes that are read stay as they are, and may be changed meanwhile.
func TestBytesAreNotKept(t *testing.T) {
	b := []byte{0, 2, 'a', 'b', 0, 1, 'c', 9}
	kept := bytes.Clone(b)
	r := Read(b)
	first := r.Text()
	if !bytes.Equal(b, kept) {
		t.Error("the bytes were changed:", b)
	}
	for i := range b {
		b[i] = 0xee
	}
	if s := r.Text(); first != "ab" || s != "c" {
		t.Errorf("read %q, %q", first, s)
	}
	if n := r.Num(1); n != 9 {
		t.Error("Num(1) =", n)
	}
	mustEnd(t, r, api.OK)
}

// thing is what is laid, or read: a text, or a number of so many bytes.
type thing struct {
	n    uint64
	size int // 0: a text
	s    string
}

// layAll lays things in their order.
func layAll(l []thing) ([]byte, api.Errno) {
	var w Writer
	for _, x := range l {
		if x.size == 0 {
			w.Text(x.s)
		} else {
			w.Num(x.n, x.size)
		}
	}
	return w.Bytes()
}

// readAll reads things of these kinds.
func readAll(b []byte, kinds []thing) ([]thing, api.Errno) {
	r := Read(b)
	var l []thing
	for _, x := range kinds {
		if x.size == 0 {
			l = append(l, thing{s: r.Text()})
		} else {
			l = append(l, thing{n: r.Num(x.size), size: x.size})
		}
	}
	return l, r.End()
}

// chance is a row of numbers that is the same each time.
type chance uint64

// below is the next one, below n.
func (c *chance) below(n int) int {
	*c = *c*6364136223846793005 + 1442695040888963407
	return int(uint64(*c) >> 33 % uint64(n))
}

// things is a row of things that can be laid.
func things(c *chance) []thing {
	l := make([]thing, c.below(12))
	for i := range l {
		size := c.below(9)
		if size == 0 {
			l[i].s = text(c.below(40))
			continue
		}
		n := uint64(c.below(1<<31))<<33 ^ uint64(c.below(1<<31))
		l[i] = thing{n: n >> (64 - 8*size), size: size}
	}
	return l
}

// P2.3: what was laid is read as it was, in order, to the end.
func TestLaidIsRead(t *testing.T) {
	c := chance(1)
	for range 3000 {
		l := things(&c)
		b, e := layAll(l)
		if e != api.OK {
			t.Fatal("laying", l, e)
		}
		got, e := readAll(b, l)
		if e != api.OK || !sameThings(got, l) {
			t.Fatal("laid", l, "read", got, e)
		}
		if len(b) > 0 { // and no less than all of it is enough
			if _, e := readAll(b[:len(b)-1], l); e != api.ErrShort {
				t.Fatal("without its last byte:", e)
			}
		}
		if _, e := readAll(append(b, 0), l); e != api.ErrForm {
			t.Fatal("with a byte more:", e)
		}
	}
	for _, size := range sizes() {
		l := []thing{{s: text(size)}, {n: 3, size: 1}, {s: text(size)}}
		b, _ := layAll(l)
		if got, e := readAll(b, l); e != api.OK || !sameThings(got, l) {
			t.Error("texts of", size, e)
		}
	}
}

// P2.3: what was read to its end with OK, laid again likewise, is the bytes.
func TestReadIsLaid(t *testing.T) {
	c := chance(2)
	whole := 0
	for range 20000 {
		b := make([]byte, c.below(14))
		for i := range b {
			b[i] = byte(c.below(256) >> (8 * c.below(2))) // noughts often, so that texts are short
		}
		kinds := things(&c)
		l, e := readAll(b, kinds)
		if e != api.OK {
			continue
		}
		whole++
		if again, e := layAll(l); e != api.OK || !bytes.Equal(again, b) {
			t.Fatal("read", b, "laid again", again, e)
		}
	}
	if whole < 100 {
		t.Error("only so many were read to their end:", whole)
	}
}

// sameThings tells whether two rows of things are one.
func sameThings(a, b []thing) bool {
	if len(a) != len(b) {
		return false
	}
	for i := range a {
		if a[i] != b[i] {
			return false
		}
	}
	return true
}
