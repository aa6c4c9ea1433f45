package data

import (
	"bytes"
	"encoding/binary"
	"math"
	"slices"
	"testing"

	"fairlead/api"
)

// slowBytes follows the words of P4.1 by the library's own layout of structs.
func slowBytes(t *testing.T, d api.Data) []byte {
	t.Helper()
	var b bytes.Buffer
	if err := binary.Write(&b, binary.LittleEndian, d); err != nil {
		t.Fatal(err)
	}
	return b.Bytes()
}

// scattered is a row of so many bytes, the same each time.
func scattered(size, seed int) []byte {
	b := make([]byte, size)
	x := uint32(seed)*2654435761 + 17
	for i := range b {
		x = x*1664525 + 1013904223
		b[i] = byte(x >> 24)
	}
	return b
}

// numbers are below, at and above 2^32, and at the edges of bytes and of all 64 bits.
func numbers() []uint64 {
	l := []uint64{0, 1, 2, 5, 255, 256, 258, 1<<32 - 2, 1<<32 - 1, 1 << 32, 1<<32 + 1, 1<<32 + 5, 1<<33 - 1, 0x0102030405060708}
	for i := range 64 {
		l = append(l, 1<<i, 1<<i-1, ^uint64(1<<i))
	}
	return append(l, math.MaxInt64, 1<<63+1, math.MaxUint64-1, math.MaxUint64)
}

// told are the bytes 1 to 64, so that each place of a call has its own.
func told() ([]byte, api.Data) {
	b := make([]byte, 64)
	for i := range b {
		b[i] = byte(i + 1)
	}
	return b, api.Data{
		Nr:   0x04030201,
		Arch: 0x08070605,
		Ip:   0x100f0e0d0c0b0a09,
		Args: [6]uint64{
			0x1817161514131211, 0x201f1e1d1c1b1a19, 0x2827262524232221,
			0x302f2e2d2c2b2a29, 0x3837363534333231, 0x403f3e3d3c3b3a39,
		},
	}
}

// calls have each of their numbers alone, all of them, and scattered ones.
func calls() []api.Data {
	_, d := told()
	l := []api.Data{{}, d, {Nr: 258}, {Nr: 258, Arch: 7, Ip: 9}, {Arch: api.Arch}}
	for _, n := range numbers() {
		l = append(l, api.Data{Nr: uint32(n)}, api.Data{Arch: uint32(n)}, api.Data{Ip: n})
		all := api.Data{Nr: uint32(n), Arch: uint32(n >> 32), Ip: n}
		for arg := range 6 {
			var one api.Data
			one.Args[arg] = n
			l = append(l, one)
			all.Args[arg] = n + uint64(arg)
		}
		l = append(l, all)
	}
	for seed := range 500 {
		b := scattered(64, seed)
		word := binary.LittleEndian
		d := api.Data{Nr: word.Uint32(b), Arch: word.Uint32(b[4:]), Ip: word.Uint64(b[8:])}
		for arg := range 6 {
			d.Args[arg] = word.Uint64(b[16+8*arg:])
		}
		l = append(l, d)
	}
	return l
}

func TestBytesOfExamples(t *testing.T) {
	want := append([]byte{2, 1, 0, 0}, make([]byte, 60)...)
	if got := Bytes(api.Data{Nr: 258}); !slices.Equal(got, want) {
		t.Errorf("Bytes of Nr 258: %v", got)
	}
	b, d := told()
	if got := Bytes(d); !slices.Equal(got, b) {
		t.Errorf("Bytes of a call of 1 to 64: %v", got)
	}
	if got := Bytes(api.Data{}); !slices.Equal(got, make([]byte, 64)) {
		t.Errorf("Bytes of a call of noughts: %v", got)
	}
}

func TestBytesLayNumbersLowestFirst(t *testing.T) {
	for _, d := range calls() {
		if got, want := Bytes(d), slowBytes(t, d); !slices.Equal(got, want) {
			t.Fatalf("Bytes(%v): %v, not %v", d, got, want)
		}
	}
}

func TestBytesAreTheCallersOwn(t *testing.T) {
	b, d := told()
	first, second := Bytes(d), Bytes(d)
	for i := range first {
		first[i] = 0xee
	}
	if !slices.Equal(second, b) || !slices.Equal(Bytes(d), b) {
		t.Error("bytes told share memory")
	}
	_ = append(second[:63], 0xee)
	if got := Bytes(d); !slices.Equal(got, b) {
		t.Errorf("Bytes behind a change of those told: %v", got)
	}
}

func TestOfExample(t *testing.T) {
	b, d := told()
	if got, e := Of(b); got != d || e != api.OK {
		t.Errorf("Of 1 to 64: %v, %v", got, e)
	}
	want := api.Data{Nr: 258}
	if got, e := Of(append([]byte{2, 1, 0, 0}, make([]byte, 60)...)); got != want || e != api.OK {
		t.Errorf("Of 2, 1 and noughts: %v, %v", got, e)
	}
}

func TestOfAsksTheLength(t *testing.T) {
	for size := range 300 {
		want := api.OK
		if size < 64 {
			want = api.ErrShort
		} else if size > 64 {
			want = api.ErrForm
		}
		d, e := Of(scattered(size, 1))
		if e != want {
			t.Errorf("Of %d bytes: %v, not %v", size, e, want)
		}
		if e != api.OK && d != (api.Data{}) {
			t.Errorf("Of %d bytes tells a call beside an error: %v", size, d)
		}
	}
	if d, e := Of(nil); d != (api.Data{}) || e != api.ErrShort {
		t.Errorf("Of nil: %v, %v", d, e)
	}
	for _, size := range []int{64 + 256, 2 * 64, 64 * 64, 1<<16 + 64} {
		if d, e := Of(make([]byte, size)); d != (api.Data{}) || e != api.ErrForm {
			t.Errorf("Of %d bytes: %v, %v", size, d, e)
		}
	}
}

func TestOfAsksTheLengthAndNotTheRoom(t *testing.T) {
	b := scattered(200, 2)
	if _, e := Of(b[:64]); e != api.OK {
		t.Errorf("Of 64 bytes with room behind them: %v", e)
	}
	if _, e := Of(b[:63]); e != api.ErrShort {
		t.Errorf("Of 63 bytes with room behind them: %v", e)
	}
}

func TestOfLeavesBytesAsTheyAre(t *testing.T) {
	for _, size := range []int{0, 63, 64, 65} {
		b := scattered(size, 3)
		kept := slices.Clone(b)
		if _, e := Of(b); !slices.Equal(b, kept) {
			t.Errorf("Of changed its %d bytes (%v)", size, e)
		}
	}
}

func TestLoadExamples(t *testing.T) {
	var d api.Data
	d.Args[0] = 1<<32 + 5
	if w, e := Load(d, 16); w != 5 || e != api.OK {
		t.Errorf("Load at 16: %v, %v", w, e)
	}
	if w, e := Load(d, 20); w != 1 || e != api.OK {
		t.Errorf("Load at 20: %v, %v", w, e)
	}
	for _, at := range []uint32{18, 64} {
		if w, e := Load(d, at); w != 0 || e != api.ErrLoad {
			t.Errorf("Load at %d: %v, %v", at, w, e)
		}
	}
}

func TestLoadAtEachWord(t *testing.T) {
	for _, d := range calls() {
		b := slowBytes(t, d)
		for at := uint32(0); at < 64; at += 4 {
			want := binary.LittleEndian.Uint32(b[at:])
			if w, e := Load(d, at); w != want || e != api.OK {
				t.Fatalf("Load(%v, %d): %v, %v, not %v", d, at, w, e, want)
			}
		}
	}
}

func TestLoadAtNoWord(t *testing.T) {
	_, d := told()
	for at := range uint32(1 << 17) {
		if at < 64 && at%4 == 0 {
			continue
		}
		if w, e := Load(d, at); w != 0 || e != api.ErrLoad {
			t.Fatalf("Load at %d: %v, %v", at, w, e)
		}
	}
	for i := range 32 {
		for _, more := range []uint32{0, 16, 60} {
			at := uint32(1)<<i + more
			if at < 64 && at%4 == 0 {
				continue
			}
			if w, e := Load(d, at); w != 0 || e != api.ErrLoad {
				t.Errorf("Load at %d: %v, %v", at, w, e)
			}
		}
	}
	for less := range uint32(200) {
		at := math.MaxUint32 - less
		if w, e := Load(d, at); w != 0 || e != api.ErrLoad {
			t.Errorf("Load at %d: %v, %v", at, w, e)
		}
	}
}

func TestLoadAtTheLastWord(t *testing.T) {
	_, d := told()
	if w, e := Load(d, 60); w != 0x403f3e3d || e != api.OK {
		t.Errorf("Load at 60: %x, %v", w, e)
	}
	for _, at := range []uint32{61, 62, 63, 64, 68, math.MaxUint32 - 3, math.MaxUint32} {
		if w, e := Load(d, at); w != 0 || e != api.ErrLoad {
			t.Errorf("Load at %d: %v, %v", at, w, e)
		}
	}
}

func TestHalves(t *testing.T) {
	for _, c := range []struct {
		n         uint64
		low, high uint32
	}{
		{0, 0, 0},
		{5, 5, 0},
		{4294967295, 4294967295, 0},
		{4294967296, 0, 1},
		{4294967297, 1, 1},
		{4294967301, 5, 1},
		{0x0102030405060708, 0x05060708, 0x01020304},
		{1 << 63, 0, 1 << 31},
		{math.MaxUint64, math.MaxUint32, math.MaxUint32},
	} {
		if low, high := Halves(c.n); low != c.low || high != c.high {
			t.Errorf("Halves(%d): %d, %d", c.n, low, high)
		}
	}
	const room = 4294967296
	for _, n := range numbers() {
		low, high := Halves(n)
		if uint64(low) != n%room || uint64(high) != n/room {
			t.Errorf("Halves(%d): %d, %d", n, low, high)
		}
	}
}

func TestPlaceOfEachArgument(t *testing.T) {
	want := [6][2]uint32{{16, 20}, {24, 28}, {32, 36}, {40, 44}, {48, 52}, {56, 60}}
	for arg, w := range want {
		if low, high, e := Place(arg); low != w[0] || high != w[1] || e != api.OK {
			t.Errorf("Place(%d): %d, %d, %v", arg, low, high, e)
		}
	}
}

func TestPlaceOfNoArgument(t *testing.T) {
	// With 2^29 or 2^61 more, eight times an argument is the same again modulo 2^32 or 2^64.
	wrong := []int{-1, -2, -3, -6, 6, 7, 8, 12, 255, 256, 1 << 16, 1<<29 - 2, 1 << 29, 1<<29 + 1, 1 << 32, 1<<32 + 5,
		1 << 61, 1<<61 + 5, -1 << 29, -1 << 32, -1 << 61, math.MaxInt, math.MaxInt - 1, math.MinInt, math.MinInt + 5}
	for arg := range 3000 {
		wrong = append(wrong, arg+6, -1-arg)
	}
	for _, arg := range wrong {
		if low, high, e := Place(arg); low != 0 || high != 0 || e != api.ErrArg {
			t.Errorf("Place(%d): %d, %d, %v", arg, low, high, e)
		}
	}
}

func TestBytesAndOfUndoOneAnother(t *testing.T) {
	for _, d := range calls() {
		if got, e := Of(Bytes(d)); got != d || e != api.OK {
			t.Fatalf("Of(Bytes(%v)): %v, %v", d, got, e)
		}
	}
	rows := [][]byte{make([]byte, 64), bytes.Repeat([]byte{255}, 64)}
	for i := range 64 * 8 {
		bit := make([]byte, 64)
		bit[i/8] = 1 << (i % 8)
		rows = append(rows, bit, scattered(64, i))
	}
	for _, b := range rows {
		d, e := Of(b)
		if got := Bytes(d); !slices.Equal(got, b) || e != api.OK {
			t.Fatalf("Bytes of the call of %v: %v, %v", b, got, e)
		}
	}
}

func TestHalvesAreTheWordsAtPlaces(t *testing.T) {
	for _, d := range calls() {
		for arg, n := range d.Args {
			lowAt, highAt, e := Place(arg)
			if e != api.OK {
				t.Fatalf("Place(%d): %v", arg, e)
			}
			low, e1 := Load(d, lowAt)
			high, e2 := Load(d, highAt)
			wantLow, wantHigh := Halves(n)
			if low != wantLow || high != wantHigh || e1 != api.OK || e2 != api.OK {
				t.Fatalf("the words of argument %d of %v: %d, %d (%v, %v)", arg, d, low, high, e1, e2)
			}
		}
	}
}

func TestBytesAreTheWords(t *testing.T) {
	for _, d := range calls() {
		var b []byte
		for at := uint32(0); at < 64; at += 4 {
			w, e := Load(d, at)
			if e != api.OK {
				t.Fatalf("Load(%v, %d): %v", d, at, e)
			}
			b = binary.LittleEndian.AppendUint32(b, w)
		}
		if got := Bytes(d); !slices.Equal(got, b) {
			t.Fatalf("Bytes(%v): %v, but words %v", d, got, b)
		}
	}
}
