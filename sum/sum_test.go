package sum

import (
	"bytes"
	"hash/adler32"
	"math"
	"testing"
)

// prime is written out here once more, so that the tests do not hang on the package's own number.
const prime = 65521

// slowGo follows the words of P1.1 with signed numbers of 64 bits.
func slowGo(sum uint32, b []byte) uint32 {
	low := int64(sum&0xffff) % prime
	high := int64(sum>>16) % prime
	for _, c := range b {
		low = (low + int64(c)) % prime
		high = (high + low) % prime
	}
	return uint32(high<<16 | low)
}

// slowRoll follows the words of P1.2 with signed numbers of 64 bits.
func slowRoll(sum uint32, n int, out, in byte) uint32 {
	if n < 0 || n > 65520 {
		n = 0
	}
	low := int64(sum&0xffff) % prime
	high := int64(sum>>16) % prime
	low = fromNought(low + int64(in) - int64(out))
	high = fromNought(high + low - 1 - int64(n)*int64(out))
	return uint32(high<<16 | low)
}

// fromNought is n modulo prime, never below 0.
func fromNought(n int64) int64 { return (n%prime + prime) % prime }

// row is a text of so many bytes, scattered, but the same each time.
func row(size int, seed uint32) []byte {
	b := make([]byte, size)
	for i := range b {
		seed = seed*1664525 + 1013904223
		b[i] = byte(seed >> 24)
	}
	return b
}

// edgeSums are sums whose low and high stand at, beside and beyond 65521.
func edgeSums() []uint32 {
	edges := []uint32{0, 1, 2, 254, 255, 256, 32768, 65519, 65520, 65521, 65522, 65534, 65535}
	var l []uint32
	for _, high := range edges {
		for _, low := range edges {
			l = append(l, high<<16|low)
		}
	}
	return l
}

// texts are of the lengths at which a sum could go astray.
func texts() [][]byte {
	l := [][]byte{nil, {}, {0}, {255}, []byte("a"), []byte("Wikipedia")}
	for _, size := range []int{2, 3, 255, 256, 257, 5552, 5553, 65519, 65520, 65521, 65522, 131072} {
		l = append(l, row(size, uint32(size)), bytes.Repeat([]byte{0}, size), bytes.Repeat([]byte{255}, size))
	}
	return l
}

// P1.1, with the chapter's examples.
func TestOfExamples(t *testing.T) {
	for _, x := range []struct {
		text string
		want uint32
	}{
		{"", 1},
		{"\x00", 0x00010001},
		{"\xff", 0x01000100},
		{"a", 0x00620062},
		{"ab", 0x012600c4},
		{"abc", 0x024d0127},
		{"Wikipedia", 0x11E60398},
	} {
		if got := Of([]byte(x.text)); got != x.want {
			t.Errorf("Of(%q) = %#08x, not %#08x", x.text, got, x.want)
		}
	}
}

// P1.1 and R2: no bytes, nil or empty.
func TestNoBytes(t *testing.T) {
	if Of(nil) != 1 || Of([]byte{}) != 1 {
		t.Error("of no bytes:", Of(nil), Of([]byte{}))
	}
	for _, s := range edgeSums() {
		want := s>>16%prime<<16 | s&0xffff%prime
		if got := Go(s, nil); got != want {
			t.Errorf("Go(%#08x, nil) = %#08x, not %#08x", s, got, want)
		}
		if got := Go(s, []byte{}); got != want {
			t.Errorf("Go(%#08x, empty) = %#08x, not %#08x", s, got, want)
		}
	}
}

// P1.1: the sum is known as Adler-32, and the library has one that is made otherwise.
func TestOfIsAdler(t *testing.T) {
	for _, b := range texts() {
		if got, want := Of(b), adler32.Checksum(b); got != want {
			t.Errorf("Of of %d bytes = %#08x, not %#08x", len(b), got, want)
		}
	}
}

// P1.1: a low or high of 65521 or more is taken modulo 65521 first.
func TestGoLowHighAtTheModulus(t *testing.T) {
	for _, x := range []struct {
		sum  uint32
		b    []byte
		want uint32
	}{
		{0xfff1fff1, nil, 0},
		{0xfff0fff0, nil, 0xfff0fff0},
		{0xffffffff, nil, 0x000e000e},
		{0x0000fff1, []byte{0}, 0},
		{0xfff10000, []byte{1}, 0x00010001},
		{0x0000fff0, []byte{1}, 0},
		{0xfff00000, []byte{1}, 0x00000001},
		{0xffffffff, []byte{255}, 0x011b010d},
	} {
		if got := Go(x.sum, x.b); got != x.want {
			t.Errorf("Go(%#08x, %v) = %#08x, not %#08x", x.sum, x.b, got, x.want)
		}
	}
}

// P1.1: every start, by every byte.
func TestGoFollowsTheWords(t *testing.T) {
	for _, s := range edgeSums() {
		for c := range 256 {
			b := []byte{byte(c), 255 - byte(c), 7}
			if got, want := Go(s, b), slowGo(s, b); got != want {
				t.Fatalf("Go(%#08x, %v) = %#08x, not %#08x", s, b, got, want)
			}
		}
	}
	for _, b := range texts() {
		for _, s := range []uint32{0, 1, 0xfff0fff0, 0xfff1fff1, 0xffffffff} {
			if got, want := Go(s, b), slowGo(s, b); got != want {
				t.Errorf("Go(%#08x, %d bytes) = %#08x, not %#08x", s, len(b), got, want)
			}
		}
	}
}

// P1.2, with the chapter's example, and the edges of n worked out by hand.
func TestRollExamples(t *testing.T) {
	if Roll(Of([]byte("ab")), 2, 'a', 'c') != Of([]byte("bc")) {
		t.Error("of ab, gone on to bc")
	}
	for _, x := range []struct {
		sum     uint32
		n       int
		out, in byte
		want    uint32
	}{
		{1, 0, 0, 0, 0x00000001},
		{0, 0, 0, 0, 0xfff00000},
		{0, 0, 1, 0, 0xffeffff0},
		{0, 1, 1, 0, 0xffeefff0},
		{0, 65520, 1, 0, 0xfff0fff0},
		{0, 65521, 1, 0, 0xffeffff0},
		{0, 65522, 1, 0, 0xffeffff0},
		{0, -1, 1, 0, 0xffeffff0},
		{0xfff1fff1, 1, 1, 0, 0xffeefff0},
		{0xffffffff, 0, 255, 0, 0xff0dff00},
	} {
		if got := Roll(x.sum, x.n, x.out, x.in); got != x.want {
			t.Errorf("Roll(%#08x, %d, %d, %d) = %#08x, not %#08x", x.sum, x.n, x.out, x.in, got, x.want)
		}
	}
}

// P1.2: an n that is not from 0 to 65520 is as 0.
func TestRollWindowsOutOfBounds(t *testing.T) {
	windows := []int{math.MinInt, math.MinInt32, -65521, -2, -1, 65521, 65522, 65536, 131042, math.MaxInt32, math.MaxInt}
	if math.MaxInt > math.MaxInt32 { // the lower half of these alone would be an n that may be
		beyond := uint64(1) << 32
		windows = append(windows, int(beyond+1), int(beyond+65520))
	}
	for _, n := range windows {
		for _, s := range edgeSums() {
			for _, out := range []byte{0, 1, 2, 254, 255} {
				if got, want := Roll(s, n, out, 9), Roll(s, 0, out, 9); got != want {
					t.Fatalf("Roll(%#08x, %d, %d, 9) = %#08x, not %#08x as with 0", s, n, out, got, want)
				}
			}
		}
	}
	if Roll(1, 65520, 1, 0) == Roll(1, 0, 1, 0) {
		t.Error("65520 is as 0")
	}
}

// P1.2: every start, by the edges of n, out and in.
func TestRollFollowsTheWords(t *testing.T) {
	edges := []byte{0, 1, 2, 127, 128, 254, 255}
	for _, s := range edgeSums() {
		for _, n := range []int{-65521, -1, 0, 1, 2, 255, 256, 257, 32768, 65519, 65520, 65521, 65522} {
			for _, out := range edges {
				for _, in := range edges {
					if got, want := Roll(s, n, out, in), slowRoll(s, n, out, in); got != want {
						t.Fatalf("Roll(%#08x, %d, %d, %d) = %#08x, not %#08x", s, n, out, in, got, want)
					}
				}
			}
		}
	}
}

// P1.3: a text in two parts has the sum of the whole.
func TestGoOnIsTheWhole(t *testing.T) {
	text := row(700, 3)
	for cut := range len(text) + 1 {
		if Go(Of(text[:cut]), text[cut:]) != Of(text) {
			t.Errorf("parted at %d it has another sum", cut)
		}
	}
	for _, a := range texts() {
		for _, b := range texts() {
			if Go(Of(a), b) != Of(append(bytes.Clone(a), b...)) {
				t.Errorf("%d bytes, then %d, have another sum", len(a), len(b))
			}
		}
	}
}

// P1.3: a window that goes on has the sum of what it shows then.
func TestRollIsTheNextWindow(t *testing.T) {
	for _, n := range []int{1, 2, 3, 16, 255, 256, 512, 65519, 65520} {
		for _, text := range [][]byte{row(n+70, 11), bytes.Repeat([]byte{255}, n+70), bytes.Repeat([]byte{0, 255}, n/2+40)} {
			s := Of(text[:n])
			for i := range 60 {
				s = Roll(s, n, text[i], text[i+n])
				if want := Of(text[i+1 : i+1+n]); s != want {
					t.Fatalf("a window of %d at %d: %#08x, not %#08x", n, i+1, s, want)
				}
			}
		}
	}
}

// P1.3: one byte that is another one makes another sum, wherever it stands.
func TestOneOtherByteIsSeen(t *testing.T) {
	text := row(40, 5)
	whole := Of(text)
	for i := range text {
		for c := range 256 {
			other := bytes.Clone(text)
			other[i] = byte(c)
			if same := Of(other) == whole; same != (byte(c) == text[i]) {
				t.Errorf("byte %d as %d: the same sum: %v", i, c, same)
			}
		}
	}
	// At the places 65520 and 65521 from the end the high part alone would not show it.
	long := row(65600, 6)
	whole = Of(long)
	for _, fromEnd := range []int{1, 2, 65519, 65520, 65521, 65522, 65600} {
		other := bytes.Clone(long)
		other[len(other)-fromEnd] ^= 0x80
		if Of(other) == whole {
			t.Errorf("byte %d from the end is not seen", fromEnd)
		}
	}
}

// R3 and R4: what is handed in stays as it is, and the same question has the same answer.
func TestBytesStayAsTheyAre(t *testing.T) {
	b := row(300, 8)
	kept := bytes.Clone(b)
	first, on := Of(b), Go(77, b)
	if !bytes.Equal(b, kept) {
		t.Error("the bytes were changed")
	}
	if Of(b) != first || Go(77, b) != on {
		t.Error("asked again, it answers otherwise")
	}
}
