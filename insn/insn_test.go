package insn

import (
	"bytes"
	"encoding/binary"
	"math"
	"slices"
	"testing"

	"fairlead/api"
)

// alone and paired are written out here once more, as numbers, so that the tests do not hang on the package's own lists.
var (
	alone  = []int{0x20, 0x00, 0x01, 0x60, 0x61, 0x02, 0x03, 0x84, 0x05, 0x06, 0x16, 0x07, 0x87}
	paired = []int{0x04, 0x14, 0x24, 0x34, 0x44, 0x54, 0x64, 0x74, 0xa4, 0x15, 0x25, 0x35, 0x45}
	jumps  = []int{0x05, 0x15, 0x25, 0x35, 0x45, 0x1d, 0x2d, 0x3d, 0x4d}
	ends   = []int{0x06, 0x16}
)

// codes are all codes of instructions.
func codes() []int {
	l := slices.Concat(alone, paired)
	for _, c := range paired {
		l = append(l, c+8)
	}
	return l
}

// slowEncode follows the words of P3.2 by the library's own layout of numbers.
func slowEncode(i api.Ins) []byte {
	b := binary.LittleEndian.AppendUint16(nil, i.Code)
	b = append(b, i.Jt, i.Jf)
	return binary.LittleEndian.AppendUint32(b, i.K)
}

// instructions are known ones and others, with numbers at the edges of each field.
func instructions() []api.Ins {
	var l []api.Ins
	edges := []uint32{0, 1, 255, 256, 65535, 65536, 1<<24 - 1, 1 << 24, 0x01020304, 0x80000000, math.MaxUint32}
	others := []int{0x08, 0x0d, 0x8c, 0x100, 0x120, 0x0115, 0x1500, 0xff00, 0x7fff, 0x8000, 0xffff}
	for _, c := range append(codes(), others...) {
		for n, k := range edges {
			l = append(l, api.Ins{Code: uint16(c), Jt: uint8(n * 51), Jf: uint8(255 - n*17), K: k})
		}
	}
	return l
}

// scattered is a row of so many bytes, the same each time.
func scattered(size int) []byte {
	b := make([]byte, size)
	seed := uint32(size) + 17
	for i := range b {
		seed = seed*1664525 + 1013904223
		b[i] = byte(seed >> 24)
	}
	return b
}

// P3.1: the list of codes is that of api, and there are 39.
func TestThirtyNineCodes(t *testing.T) {
	named := []int{
		api.LdAbs, api.LdImm, api.LxImm, api.LdMem, api.LxMem, api.St, api.Stx, api.Neg, api.Ja, api.RetK, api.RetA,
		api.Tax, api.Txa,
		api.Add, api.Sub, api.Mul, api.Div, api.Or, api.And, api.Lsh, api.Rsh, api.Xor, api.Jeq, api.Jgt, api.Jge,
		api.Jset,
		api.Add + api.ByX, api.Sub + api.ByX, api.Mul + api.ByX, api.Div + api.ByX, api.Or + api.ByX,
		api.And + api.ByX, api.Lsh + api.ByX, api.Rsh + api.ByX, api.Xor + api.ByX, api.Jeq + api.ByX,
		api.Jgt + api.ByX, api.Jge + api.ByX, api.Jset + api.ByX,
	}
	if len(named) != 39 || !slices.Equal(named, codes()) {
		t.Fatal("the tests' own lists are not api's:", named, codes())
	}
	for _, c := range named {
		if !Known(uint16(c)) {
			t.Errorf("Known(%#02x) = false", c)
		}
	}
	known := 0
	for c := range 65536 {
		if Known(uint16(c)) {
			known++
		}
	}
	if known != 39 {
		t.Errorf("%d codes are known, not 39", known)
	}
}

// P3.1: the chapter's examples, and the edges of the codes: one more, one less, ByX more.
func TestKnownExamples(t *testing.T) {
	for _, x := range []struct {
		code uint16
		want bool
	}{
		{0x1d, true},
		{0x8c, false}, // Neg by X
		{0x00, true},
		{0xffff, false},
		{0x08, false}, // LdImm by X, and ByX itself
		{0x09, false},
		{0x0a, false},
		{0x0b, false},
		{0x0c, true},  // Add by X
		{0x0d, false}, // Ja by X
		{0x0e, false}, // RetK by X
		{0x0f, false}, // Tax by X
		{0x10, false},
		{0x13, false},
		{0x17, false},
		{0x1e, false}, // RetA by X
		{0x1f, false},
		{0x20, true},
		{0x21, false},
		{0x28, false}, // LdAbs by X
		{0x55, false},
		{0x5c, true},
		{0x5d, false},
		{0x60, true},
		{0x61, true},
		{0x62, false},
		{0x68, false}, // LdMem by X
		{0x69, false}, // LxMem by X
		{0x84, true},
		{0x85, false},
		{0x86, false},
		{0x87, true},
		{0x88, false},
		{0x8f, false}, // Txa by X
		{0x94, false}, // between Neg and Xor
		{0x9c, false},
		{0xa4, true},
		{0xac, true},
		{0xa5, false},
		{0xb4, false},
		{0x120, false}, // the lower byte alone would be known
		{0x100, false},
		{0x115, false},
		{0x2000, false},
		{0xff06, false},
	} {
		if got := Known(x.code); got != x.want {
			t.Errorf("Known(%#02x) = %v", x.code, got)
		}
	}
}

// P3.1: of every number that a code can be, whether it is known, jumps and ends.
func TestEveryCode(t *testing.T) {
	known := codes()
	for c := range 65536 {
		code := uint16(c)
		if got, want := Known(code), slices.Contains(known, c); got != want {
			t.Errorf("Known(%#04x) = %v", c, got)
		}
		if got, want := Jumps(code), slices.Contains(jumps, c); got != want {
			t.Errorf("Jumps(%#04x) = %v", c, got)
		}
		if got, want := Ends(code), slices.Contains(ends, c); got != want {
			t.Errorf("Ends(%#04x) = %v", c, got)
		}
	}
}

// P3.1: Ja and what ends have no other form by X; the conditions have.
func TestJumpsAndEndsByName(t *testing.T) {
	for _, c := range []uint16{api.Ja, api.Jeq, api.Jgt, api.Jge, api.Jset} {
		if !Jumps(c) {
			t.Errorf("Jumps(%#02x) = false", c)
		}
		if got, want := Jumps(c+api.ByX), c != api.Ja; got != want {
			t.Errorf("Jumps(%#02x and ByX) = %v", c, got)
		}
	}
	for _, c := range []uint16{api.RetK, api.RetA} {
		if !Ends(c) || Ends(c+api.ByX) || Jumps(c) || Jumps(c+api.ByX) {
			t.Errorf("%#02x: ends %v, by X %v, jumps %v", c, Ends(c), Ends(c+api.ByX), Jumps(c))
		}
	}
}

// P3.2: the chapter's example, and each field alone.
func TestEncodeExamples(t *testing.T) {
	for _, x := range []struct {
		ins  api.Ins
		want []byte
	}{
		{api.Ins{Code: api.Jeq, Jt: 1, Jf: 2, K: 258}, []byte{21, 0, 1, 2, 2, 1, 0, 0}},
		{api.Ins{}, []byte{0, 0, 0, 0, 0, 0, 0, 0}},
		{api.Ins{Code: 0x0102}, []byte{2, 1, 0, 0, 0, 0, 0, 0}},
		{api.Ins{Code: 0xffff}, []byte{255, 255, 0, 0, 0, 0, 0, 0}},
		{api.Ins{Jt: 255}, []byte{0, 0, 255, 0, 0, 0, 0, 0}},
		{api.Ins{Jf: 255}, []byte{0, 0, 0, 255, 0, 0, 0, 0}},
		{api.Ins{K: 0x04030201}, []byte{0, 0, 0, 0, 1, 2, 3, 4}},
		{api.Ins{K: math.MaxUint32}, []byte{0, 0, 0, 0, 255, 255, 255, 255}},
		{api.Ins{Code: api.RetK, K: 0x7fff0000}, []byte{6, 0, 0, 0, 0, 0, 255, 127}},
	} {
		if got := Encode(x.ins); !bytes.Equal(got, x.want) {
			t.Errorf("Encode(%v) = %v, not %v", x.ins, got, x.want)
		}
		if got, e := Decode(x.want); got != x.ins || e != api.OK {
			t.Errorf("Decode(%v) = %v, %d, not %v", x.want, got, e, x.ins)
		}
	}
}

// P3.2: known codes and others, at the edges of each field.
func TestEncodeFollowsTheWords(t *testing.T) {
	for _, i := range instructions() {
		if got, want := Encode(i), slowEncode(i); !bytes.Equal(got, want) {
			t.Errorf("Encode(%v) = %v, not %v", i, got, want)
		}
	}
}

// P3.2: fewer than eight bytes, eight, and more.
func TestDecodeLengths(t *testing.T) {
	if i, e := Decode(nil); i != (api.Ins{}) || e != api.ErrShort {
		t.Error("nil:", i, e)
	}
	for _, n := range []int{0, 1, 2, 3, 4, 5, 6, 7, 8, 9, 15, 16, 17, 24, 256, 264, 65544} {
		want := api.OK
		if n < 8 {
			want = api.ErrShort
		}
		if n > 8 {
			want = api.ErrForm
		}
		i, e := Decode(bytes.Repeat([]byte{255}, n))
		if e != want {
			t.Errorf("Decode of %d bytes: %d, not %d", n, e, want)
		}
		if e != api.OK && i != (api.Ins{}) {
			t.Errorf("Decode of %d bytes: %v beside an error", n, i)
		}
	}
}

// P3.2: what stands behind the eight bytes in the same memory is not seen.
func TestDecodeAsksLengthNotCapacity(t *testing.T) {
	b := scattered(32)
	if _, e := Decode(b[:7]); e != api.ErrShort {
		t.Error("seven of more:", e)
	}
	if i, e := Decode(b[8:16]); e != api.OK || !bytes.Equal(slowEncode(i), b[8:16]) {
		t.Error("eight of more:", i, e)
	}
	if l, e := All(b[:9]); len(l) != 0 || e != api.ErrForm {
		t.Error("nine of more:", l, e)
	}
}

// P3.2: a code that is none is read all the same.
func TestCodesThatAreNoneAreRead(t *testing.T) {
	for c := range 65536 {
		want := api.Ins{Code: uint16(c), Jt: 1, Jf: 2, K: 3}
		b := []byte{byte(c), byte(c / 256), 1, 2, 3, 0, 0, 0}
		if got, e := Decode(b); got != want || e != api.OK {
			t.Fatalf("Decode(%v) = %v, %d", b, got, e)
		}
		if got, e := All(b); e != api.OK || len(got) != 1 || got[0] != want {
			t.Fatalf("All(%v) = %v, %d", b, got, e)
		}
	}
}

// P3.2: the bytes of all, one behind the other.
func TestBytesOfAll(t *testing.T) {
	l := instructions()
	for _, n := range []int{0, 1, 2, 3, 7, 8, 9, len(l)} {
		var want []byte
		for _, i := range l[:n] {
			want = append(want, slowEncode(i)...)
		}
		if got := Bytes(l[:n]); !bytes.Equal(got, want) {
			t.Errorf("Bytes of %d = %.40v, not %.40v", n, got, want)
		}
		if got, e := All(want); !slices.Equal(got, l[:n]) || e != api.OK {
			t.Errorf("All of the bytes of %d = %.5v, %d", n, got, e)
		}
	}
}

// P3.2 and R2: no instructions, no bytes; nil or empty.
func TestNothing(t *testing.T) {
	if len(Bytes(nil)) != 0 || len(Bytes([]api.Ins{})) != 0 {
		t.Error("bytes of no instructions")
	}
	for _, b := range [][]byte{nil, {}} {
		if l, e := All(b); len(l) != 0 || e != api.OK {
			t.Error("no bytes:", l, e)
		}
	}
}

// P3.2: bytes that are a multiple of eight, and those that are not.
func TestAllLengths(t *testing.T) {
	for n := range 300 {
		b := scattered(n)
		l, e := All(b)
		if n%8 != 0 {
			if len(l) != 0 || e != api.ErrForm {
				t.Errorf("All of %d bytes: %v, %d", n, l, e)
			}
			continue
		}
		if e != api.OK || len(l) != n/8 {
			t.Fatalf("All of %d bytes: %d instructions, %d", n, len(l), e)
		}
		for at, i := range l {
			if !bytes.Equal(slowEncode(i), b[at*8:at*8+8]) {
				t.Errorf("All of %d bytes: %v at %d", n, i, at)
			}
		}
	}
}

// P3.2: more than a filter may have is read and laid all the same.
func TestLongPrograms(t *testing.T) {
	for _, n := range []int{api.MaxIns, api.MaxIns + 1, 100000} {
		b := scattered(n * 8)
		l, e := All(b)
		if e != api.OK || len(l) != n || !bytes.Equal(Bytes(l), b) {
			t.Errorf("%d instructions: %d, %d", n, len(l), e)
		}
	}
}

// P3.3: Encode and Decode undo one another, from either side.
func TestEncodeAndDecodeUndo(t *testing.T) {
	for _, i := range instructions() {
		if got, e := Decode(Encode(i)); got != i || e != api.OK {
			t.Errorf("Decode(Encode(%v)) = %v, %d", i, got, e)
		}
	}
	for at := range 8 {
		for c := range 256 {
			b := make([]byte, 8)
			b[at] = byte(c)
			i, e := Decode(b)
			if got := Encode(i); !bytes.Equal(got, b) || e != api.OK {
				t.Errorf("Encode(Decode(%v)) = %v, %d", b, got, e)
			}
		}
	}
}

// P3.3: Bytes and All undo one another, from either side.
func TestBytesAndAllUndo(t *testing.T) {
	l := instructions()
	for n := range len(l) + 1 {
		if got, e := All(Bytes(l[:n])); !slices.Equal(got, l[:n]) || e != api.OK {
			t.Fatalf("All(Bytes of %d) has %d, %d", n, len(got), e)
		}
	}
	for n := 0; n <= 4096; n += 8 {
		b := scattered(n)
		l, e := All(b)
		if got := Bytes(l); !bytes.Equal(got, b) || e != api.OK {
			t.Fatalf("Bytes(All of %d bytes) has %d, %d", n, len(got), e)
		}
	}
}

// P3.3: the same bytes just if they are the same instruction.
func TestSameBytesJustIfTheSame(t *testing.T) {
	l := instructions()
	for _, i := range l {
		for _, j := range l {
			if same := bytes.Equal(Encode(i), Encode(j)); same != (i == j) {
				t.Fatalf("%v and %v: the same bytes: %v", i, j, same)
			}
		}
	}
	for _, i := range []api.Ins{{}, {Code: 0xffff, Jt: 255, Jf: 255, K: math.MaxUint32}, {Code: api.Jset, Jt: 3, Jf: 4, K: 5}} {
		for bit := range 64 {
			b := Encode(i)
			b[bit/8] ^= 1 << (bit % 8)
			if j, e := Decode(b); j == i || e != api.OK {
				t.Errorf("%v with the bit %d turned is the same, or %d", i, bit, e)
			}
		}
	}
}

// R3: what is handed in stays as it is, and what is told is the caller's own.
func TestNothingIsShared(t *testing.T) {
	l := instructions()
	program, kept := slices.Clone(l), slices.Clone(l)
	b := Bytes(program)
	if !slices.Equal(program, kept) {
		t.Error("Bytes changed its instructions")
	}
	laid := bytes.Clone(b)
	got, _ := All(b)
	first, _ := Decode(b[:8])
	if !bytes.Equal(b, laid) {
		t.Error("All or Decode changed its bytes")
	}
	clear(b)
	clear(program)
	if !slices.Equal(got, l) || first != l[0] {
		t.Error("what was told hangs on what was handed in")
	}
	one, two := Encode(l[1]), Encode(l[2])
	clear(one)
	if !bytes.Equal(two, slowEncode(l[2])) || !bytes.Equal(Encode(l[1]), slowEncode(l[1])) {
		t.Error("two answers share their bytes")
	}
	for _, more := range [][]byte{Bytes(l[:3]), Bytes(l[:3])} {
		_ = append(more, 1, 2, 3)
	}
	if !bytes.Equal(Bytes(l[:3]), laid[:24]) {
		t.Error("asked again, it answers otherwise")
	}
}
