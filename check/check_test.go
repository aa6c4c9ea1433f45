package check

import (
	"math"
	"math/big"
	"slices"
	"testing"

	"fairlead/api"
)

// The codes are written out here once more, as numbers, so that the tests do not hang on lists of the program.
var (
	conditions = []int{0x15, 0x25, 0x35, 0x45, 0x1d, 0x2d, 0x3d, 0x4d}
	ends       = []int{0x06, 0x16}
	shifts     = []int{0x64, 0x74}
	cells      = []int{0x60, 0x61, 0x02, 0x03}
	byK        = []int{0x04, 0x14, 0x24, 0x34, 0x44, 0x54, 0x64, 0x74, 0xa4}
	byX        = []int{0x0c, 0x1c, 0x2c, 0x3c, 0x4c, 0x5c, 0x6c, 0x7c, 0xac}
	others     = []int{0x20, 0x00, 0x01, 0x84, 0x07, 0x87}
)

const (
	ldAbs = 0x20
	ja    = 0x05
	div   = 0x34
)

// codes are all codes of instructions.
func codes() []int {
	return slices.Concat(conditions, ends, cells, byK, byX, others, []int{ja})
}

// edges are numbers K at which some instruction becomes a fault, and those about them.
func edges() []uint32 {
	l := []uint32{0, 1, 2, 3, 4, 5, 14, 15, 16, 17, 30, 31, 32, 33, 56, 59, 60, 61, 62, 63, 64, 65, 68, 255, 256, 272, 320}
	for bit := range 32 {
		l = append(l, 1<<bit, 1<<bit-1, 1<<bit+4, ^uint32(1<<bit))
	}
	return append(l, math.MaxInt32, math.MaxUint32-3, math.MaxUint32-2, math.MaxUint32-1, math.MaxUint32)
}

func ins(code int, k uint32) api.Ins { return api.Ins{Code: uint16(code), K: k} }

func jump(code int, jt, jf uint8) api.Ins { return api.Ins{Code: uint16(code), Jt: jt, Jf: jf} }

func ret() api.Ins { return ins(0x06, 0) }

// rets is a program of so many instructions that all end it.
func rets(n int) []api.Ins { return slices.Repeat([]api.Ins{ret()}, n) }

// plain is a program of so many instructions of which the last alone ends it.
func plain(n int) []api.Ins { return append(slices.Repeat([]api.Ins{ins(0, 7)}, n-1), ret()) }

// together is a place, 1 and what a jump tells, as the document adds them: in numbers that have no end.
func together(at int, more uint32) *big.Int {
	sum := big.NewInt(int64(at))
	sum.Add(sum, big.NewInt(1))
	return sum.Add(sum, big.NewInt(int64(more)))
}

func below(n *big.Int, size int) bool { return n.Cmp(big.NewInt(int64(size))) < 0 }

// faults are all that P5.1 finds with one instruction, in its order.
func faults(l []api.Ins, at int) []api.Errno {
	i, code := l[at], int(l[at].Code)
	var found []api.Errno
	find := func(e api.Errno, so bool) {
		if so {
			found = append(found, e)
		}
	}
	find(api.ErrCode, !slices.Contains(codes(), code))
	find(api.ErrLoad, code == ldAbs && (i.K&3 != 0 || i.K > 63) || slices.Contains(cells, code) && i.K > 15)
	find(api.ErrZero, code == div && i.K == 0 || slices.Contains(shifts, code) && i.K > 31)
	out := func(more uint32) bool { return !below(together(at, more), len(l)) }
	find(api.ErrJump, code == ja && out(i.K))
	find(api.ErrJump, slices.Contains(conditions, code) && (out(uint32(i.Jt)) || out(uint32(i.Jf))))
	find(api.ErrEnd, at == len(l)-1 && !slices.Contains(ends, code))
	return found
}

// slowCheck follows the words of P5.1.
func slowCheck(l []api.Ins) (api.Errno, int) {
	if len(l) == 0 {
		return api.ErrEmpty, 0
	}
	if len(l) > 4096 {
		return api.ErrLong, 4096
	}
	for at := range l {
		if found := faults(l, at); len(found) > 0 {
			return found[0], at
		}
	}
	return api.OK, -1
}

// slowNext follows the words of P5.2.
func slowNext(l []api.Ins, i int) []int {
	if i < 0 || i >= len(l) {
		return nil
	}
	var further []uint32
	code := int(l[i].Code)
	switch {
	case code == ja:
		further = []uint32{l[i].K}
	case slices.Contains(conditions, code):
		further = []uint32{uint32(l[i].Jt), uint32(l[i].Jf)}
	case !slices.Contains(ends, code):
		further = []uint32{0}
	}
	var places []int
	for _, more := range further {
		if to := together(i, more); below(to, len(l)) {
			places = append(places, int(to.Int64()))
		}
	}
	slices.Sort(places)
	return slices.Compact(places)
}

// chance are numbers that look like chance, the same each time.
type chance uint64

func (c *chance) below(n int) int {
	*c = *c*6364136223846793005 + 1442695040888963407
	return int(uint64(*c) >> 33 % uint64(n))
}

// instruction is a scattered one for a place with so many behind it: mostly one that may stand there.
func (c *chance) instruction(behind int) api.Ins {
	l := codes()
	i := api.Ins{Code: uint16(l[c.below(len(l))]), K: uint32(c.below(16)) * 4, Jt: uint8(c.below(256)), Jf: uint8(c.below(256))}
	if c.below(8) > 0 {
		i.K = uint32(1 + c.below(15))
		room := max(1, min(behind, 256))
		i.Jt, i.Jf = uint8(c.below(room)), uint8(c.below(room))
	}
	if c.below(4) > 0 && i.Code == ldAbs {
		i.K = uint32(c.below(16)) * 4
	}
	if c.below(4) > 0 && i.Code == ja {
		i.K = uint32(c.below(max(1, behind)))
	}
	if c.below(60) == 0 {
		i.K = edges()[c.below(len(edges()))]
	}
	if c.below(90) == 0 {
		i.Code = uint16(c.below(65536))
	}
	return i
}

// program is a scattered one.
func (c *chance) program(size int) []api.Ins {
	l := make([]api.Ins, 0, size)
	for at := range size {
		l = append(l, c.instruction(size-1-at))
	}
	if c.below(5) > 0 {
		l[size-1].Code = uint16(ends[c.below(2)])
	}
	return l
}

// palette are instructions of each kind, some with faults, of which small programs are put together.
func palette() []api.Ins {
	return []api.Ins{
		ins(0x06, 9), ins(0x16, 0), ins(ldAbs, 60), ins(ldAbs, 62), ins(0x03, 15), ins(0x60, 16), ins(div, 0), ins(0x3c, 0),
		ins(0x74, 31), ins(0x64, 32), ins(ja, 0), ins(ja, 1), ins(ja, math.MaxUint32), jump(0x15, 0, 0), jump(0x4d, 1, 0),
		jump(0x25, 0, 2), jump(0x3d, 255, 0), ins(0x8c, 0), ins(0x115, 0),
	}
}

// programs are all of up to three instructions of the palette, and longer ones, with faults and without.
func programs() [][]api.Ins {
	kinds := palette()
	var l [][]api.Ins
	for _, a := range kinds {
		l = append(l, []api.Ins{a})
		for _, b := range kinds {
			l = append(l, []api.Ins{a, b})
			for _, c := range kinds {
				l = append(l, []api.Ins{a, b, c})
			}
		}
	}
	c := chance(17)
	for n := range 3000 {
		l = append(l, c.program(1+n%40))
	}
	return append(l, plain(300), plain(4096), rets(4096))
}

// runnable are those of the programs that may be run, by the words of the document.
func runnable(t *testing.T) [][]api.Ins {
	t.Helper()
	l := slices.DeleteFunc(programs(), func(p []api.Ins) bool {
		e, _ := slowCheck(p)
		return e != api.OK
	})
	if len(l) < 500 {
		t.Fatalf("only %d programs may be run", len(l))
	}
	return l
}

// expect holds Check's answer against what is asked.
func expect(t *testing.T, l []api.Ins, e api.Errno, at int) {
	t.Helper()
	if gotE, gotAt := Check(l...); gotE != e || gotAt != at {
		t.Errorf("Check of %d, %.6v: %v, %d, not %v, %d", len(l), l, gotE, gotAt, e, at)
	}
}

// expectAt holds Check's answer of an instruction in the midst of a program against what is asked.
func expectAt(t *testing.T, i api.Ins, e api.Errno) {
	t.Helper()
	at := 2
	if e == api.OK {
		at = -1
	}
	expect(t, append(append(plain(3)[:2], i), rets(300)...), e, at)
}

// P5.1: the chapter's examples.
func TestCheckExamples(t *testing.T) {
	expect(t, []api.Ins{{Code: api.RetK}}, api.OK, -1)
	expect(t, []api.Ins{{Code: api.LdAbs, K: 2}, {Code: api.RetK}}, api.ErrLoad, 0)
	expect(t, []api.Ins{{Code: api.Ja}}, api.ErrJump, 0)
	expect(t, []api.Ins{{Code: api.LdImm}}, api.ErrEnd, 0)
}

// P5.1: no instruction, and as many as there may be.
func TestCheckLengths(t *testing.T) {
	if e, at := Check(); e != api.ErrEmpty || at != 0 {
		t.Error("nothing handed in:", e, at)
	}
	expect(t, nil, api.ErrEmpty, 0)
	expect(t, []api.Ins{}, api.ErrEmpty, 0)
	expect(t, rets(10)[:0], api.ErrEmpty, 0)
	for _, n := range []int{1, 2, 255, 256, 257, 4095, 4096} {
		expect(t, rets(n), api.OK, -1)
		expect(t, plain(n), api.OK, -1)
		expect(t, make([]api.Ins, n), api.ErrEnd, n-1)
	}
	for _, n := range []int{4097, 4098, 8192, 65536, 65537, 70000} {
		expect(t, rets(n), api.ErrLong, 4096)
		expect(t, plain(n), api.ErrLong, 4096)
		expect(t, make([]api.Ins, n), api.ErrLong, 4096)
	}
	expect(t, rets(5000)[:4096], api.OK, -1)
}

// P5.1: that there are too many is told ahead of what is wrong with one of them.
func TestTooManyAheadOfOtherFaults(t *testing.T) {
	for _, i := range []api.Ins{ins(0xffff, 0), ins(ldAbs, 2), ins(div, 0), ins(ja, math.MaxUint32)} {
		l := rets(4097)
		l[0] = i
		expect(t, l, api.ErrLong, 4096)
		l = rets(4096)
		l[0] = i
		want, _ := slowCheck(l)
		expect(t, l, want, 0)
	}
}

// P5.1: of every number that a code can be, whether it is an instruction's.
func TestCheckEveryCode(t *testing.T) {
	known := codes()
	if len(known) != 39 {
		t.Fatalf("%d codes", len(known))
	}
	for c := range 65536 {
		l := []api.Ins{ins(c, 4), ret(), ret(), ret(), ret(), ret()}
		want, at := api.OK, -1
		if !slices.Contains(known, c) {
			want, at = api.ErrCode, 0
		}
		expect(t, l, want, at)
	}
}

// P5.1: words that a call has.
func TestLoadsOfWords(t *testing.T) {
	for _, k := range []uint32{0, 4, 8, 16, 52, 56, 60} {
		expectAt(t, ins(ldAbs, k), api.OK)
	}
	for _, k := range []uint32{1, 2, 3, 5, 58, 59, 61, 62, 63, 64, 65, 66, 68, 128, 256, 260, 1 << 31, math.MaxUint32 - 3, math.MaxUint32} {
		expectAt(t, ins(ldAbs, k), api.ErrLoad)
	}
	for k := range uint32(3000) {
		want := api.ErrLoad
		if k < 64 && k%4 == 0 {
			want = api.OK
		}
		expectAt(t, ins(ldAbs, k), want)
	}
}

// P5.1: cells that there are, of each instruction that takes or fills one.
func TestLoadsOfCells(t *testing.T) {
	for _, code := range []int{api.LdMem, api.LxMem, api.St, api.Stx} {
		for k := range uint32(400) {
			want := api.ErrLoad
			if k < 16 {
				want = api.OK
			}
			expectAt(t, ins(code, k), want)
		}
		for _, k := range []uint32{1 << 16, 1 << 31, math.MaxInt32, math.MaxUint32 - 15, math.MaxUint32} {
			expectAt(t, ins(code, k), api.ErrLoad)
		}
	}
}

// P5.1: K of the instructions that load none does not matter.
func TestOtherNumbersLoadNothing(t *testing.T) {
	for _, code := range []int{api.LdImm, api.LxImm, api.Tax, api.Txa, api.Neg, api.RetK, api.RetA, api.Add, api.Sub, api.Mul, api.Or, api.And, api.Xor} {
		for _, k := range edges() {
			expectAt(t, ins(code, k), api.OK)
		}
	}
}

// P5.1: a division by K is asked whether K is 0, one by X is not.
func TestDivisions(t *testing.T) {
	for _, k := range edges() {
		want := api.OK
		if k == 0 {
			want = api.ErrZero
		}
		expectAt(t, ins(api.Div, k), want)
		expectAt(t, ins(api.Div+api.ByX, k), api.OK)
	}
}

// P5.1: shifts by K are asked whether K is above 31, those by X are not.
func TestShifts(t *testing.T) {
	for _, code := range []int{api.Lsh, api.Rsh} {
		for _, k := range append(edges(), 31, 32) {
			want := api.OK
			if k > 31 {
				want = api.ErrZero
			}
			expectAt(t, ins(code, k), want)
			expectAt(t, ins(code+api.ByX, k), api.OK)
		}
	}
}

// P5.1: jumps to the last instruction, and just behind it.
func TestJumpsToTheLastAndBehind(t *testing.T) {
	for _, n := range []int{3, 4, 10, 256, 257, 258, 4096} {
		for _, at := range []int{0, 1, (n - 1) / 2, n - 2} {
			l := rets(n)
			behind := n - 1 - at
			l[at] = ins(ja, uint32(behind-1))
			expect(t, l, api.OK, -1)
			l[at] = ins(ja, uint32(behind))
			expect(t, l, api.ErrJump, at)
			if behind > 255 {
				continue
			}
			for _, code := range conditions {
				l[at] = jump(code, uint8(behind-1), 0)
				expect(t, l, api.OK, -1)
				l[at] = jump(code, 0, uint8(behind-1))
				expect(t, l, api.OK, -1)
				l[at] = jump(code, uint8(behind), 0)
				expect(t, l, api.ErrJump, at)
				l[at] = jump(code, 0, uint8(behind))
				expect(t, l, api.ErrJump, at)
			}
		}
	}
}

// P5.1: Ja with the greatest K; a sum that begins anew at 2^31 or 2^32 would land within the program.
func TestFarJumps(t *testing.T) {
	for _, n := range []int{2, 3, 300, 4096} {
		for _, at := range []int{0, 1, n - 2, n - 1} {
			for _, k := range []uint32{4095, 4096, 1 << 16, 1<<31 - 2, 1<<31 - 1, 1 << 31, 1<<32 - 4096, 1<<32 - 3, 1<<32 - 2, math.MaxUint32} {
				l := rets(n)
				l[at] = ins(ja, k)
				want, place := api.ErrJump, at
				if int64(at)+1+int64(k) < int64(n) {
					want, place = api.OK, -1
				}
				expect(t, l, want, place)
			}
		}
	}
}

// P5.1: Ja goes by K alone, the other jumps by Jt and Jf alone.
func TestJumpsAskTheirOwnNumbers(t *testing.T) {
	expect(t, []api.Ins{{Code: api.Ja, Jt: 255, Jf: 255}, ret()}, api.OK, -1)
	for _, code := range conditions {
		expect(t, []api.Ins{{Code: uint16(code), K: math.MaxUint32}, ret()}, api.OK, -1)
		expect(t, []api.Ins{{Code: uint16(code), Jt: 1}, ret()}, api.ErrJump, 0)
		expect(t, []api.Ins{{Code: uint16(code), Jf: 1}, ret()}, api.ErrJump, 0)
		expect(t, []api.Ins{{Code: uint16(code), Jt: 255, Jf: 255}, ret()}, api.ErrJump, 0)
	}
	for _, code := range slices.Concat(ends, others, byK, byX, cells) {
		expectAt(t, api.Ins{Code: uint16(code), Jt: 255, Jf: 255, K: 4}, api.OK)
	}
}

// P5.1: a last instruction that does not end the program; those ahead of it need not.
func TestLastInstruction(t *testing.T) {
	for _, code := range codes() {
		want, at := api.ErrEnd, 3
		if slices.Contains(ends, code) {
			want, at = api.OK, -1
		}
		if code == ja || slices.Contains(conditions, code) {
			want = api.ErrJump // it would go on behind the last one, and that is told ahead of the end
		}
		l := append(plain(4)[:3], ins(code, 4))
		expect(t, l, want, at)
	}
	expect(t, []api.Ins{ret(), ins(api.LdImm, 0)}, api.ErrEnd, 1)
	expect(t, []api.Ins{ins(api.LdImm, 0), ins(api.RetA, 0)}, api.OK, -1)
}

// P5.1: of several faults, that of the first instruction is told; of one instruction's, the first.
func TestFirstFaultIsTold(t *testing.T) {
	wrong := []struct {
		i api.Ins
		e api.Errno
	}{
		{ins(0x8c, 0), api.ErrCode}, {ins(ldAbs, 64), api.ErrLoad}, {ins(api.Stx, 16), api.ErrLoad}, {ins(div, 0), api.ErrZero},
		{ins(api.Rsh, 32), api.ErrZero}, {ins(ja, 9), api.ErrJump}, {jump(0x4d, 0, 9), api.ErrJump},
	}
	for _, a := range wrong {
		for _, b := range wrong {
			expect(t, []api.Ins{a.i, b.i, ret()}, a.e, 0)
			expect(t, []api.Ins{ret(), a.i, ins(0, 0), b.i}, a.e, 1)
		}
		expect(t, []api.Ins{ret(), a.i}, a.e, 1) // ahead of ErrEnd, at the same place
		expect(t, []api.Ins{a.i, ins(0, 0)}, a.e, 0)
	}
}

// P5.1: all the programs, by the document's words.
func TestCheckFollowsTheWords(t *testing.T) {
	told := map[api.Errno]int{}
	for _, l := range programs() {
		e, at := slowCheck(l)
		told[e]++
		expect(t, l, e, at)
	}
	for _, e := range []api.Errno{api.OK, api.ErrCode, api.ErrLoad, api.ErrZero, api.ErrJump, api.ErrEnd} {
		if told[e] < 20 {
			t.Errorf("%v is asked only %d times", e, told[e])
		}
	}
}

// P5.1: every code with every edge of K, in the midst and last.
func TestCheckAtEdges(t *testing.T) {
	for _, code := range append(codes(), 0x08, 0x0d, 0x28, 0x68, 0x8c, 0x120, 0x134, 0xffff) {
		for _, k := range edges() {
			l := []api.Ins{ret(), ins(code, k), ret(), ret()}
			e, at := slowCheck(l)
			expect(t, l, e, at)
			e, at = slowCheck(l[:2])
			expect(t, l[:2], e, at)
		}
	}
}

// expectNext holds Next's answer against what is asked.
func expectNext(t *testing.T, l []api.Ins, i int, want ...int) {
	t.Helper()
	if got := Next(l, i); !slices.Equal(got, want) {
		t.Errorf("Next of %d, %.6v at %d: %v, not %v", len(l), l, i, got, want)
	}
}

// P5.2: the chapter's example, and one of each kind.
func TestNextExamples(t *testing.T) {
	expectNext(t, append([]api.Ins{{Code: api.Jeq, Jt: 1, Jf: 0}}, rets(3)...), 0, 1, 2)
	l := []api.Ins{ins(ldAbs, 0), jump(api.Jgt, 0, 1), ins(ja, 1), jump(api.Jset, 0, 0), ins(api.RetK, 0), ins(api.RetA, 0), ins(api.Tax, 0)}
	expectNext(t, l, 0, 1)
	expectNext(t, l, 1, 2, 3)
	expectNext(t, l, 2, 4)
	expectNext(t, l, 3, 4)
	expectNext(t, l, 4)
	expectNext(t, l, 5)
	expectNext(t, l, 6)
}

// P5.2: places that l has not.
func TestNextOfNoInstruction(t *testing.T) {
	for _, l := range [][]api.Ins{nil, {}, rets(1), plain(4), {jump(0x15, 0, 1), ins(0, 0), ins(ja, 0), ins(0, 0)}} {
		for _, i := range []int{-1, -2, -4, -4096, math.MinInt, math.MinInt + 1, len(l), len(l) + 1, len(l) + 4, math.MaxInt - 1, math.MaxInt} {
			expectNext(t, l, i)
		}
	}
	expectNext(t, plain(9)[:4], 4)
	expectNext(t, plain(9)[:4], 3)
	expectNext(t, plain(9)[:4], 2, 3)
}

// P5.2: rising, whichever of Jt and Jf is the greater one, and once, if they are the same.
func TestNextRisesAndTellsOnce(t *testing.T) {
	l := rets(300)
	for _, code := range conditions {
		l[7] = jump(code, 2, 5)
		expectNext(t, l, 7, 10, 13)
		l[7] = jump(code, 5, 2)
		expectNext(t, l, 7, 10, 13)
		l[7] = jump(code, 0, 255)
		expectNext(t, l, 7, 8, 263)
		l[7] = jump(code, 255, 254)
		expectNext(t, l, 7, 262, 263)
		for _, j := range []uint8{0, 1, 127, 128, 255} {
			l[7] = jump(code, j, j)
			expectNext(t, l, 7, 8+int(j))
		}
	}
}

// P5.2: of the places to go on those alone that there are.
func TestNextLeavesOutPlacesBehindTheLast(t *testing.T) {
	for _, code := range conditions {
		expectNext(t, []api.Ins{jump(code, 0, 1), ret()}, 0, 1)
		expectNext(t, []api.Ins{jump(code, 1, 0), ret()}, 0, 1)
		expectNext(t, []api.Ins{jump(code, 1, 255), ret()}, 0)
		expectNext(t, []api.Ins{jump(code, 1, 1), ret()}, 0)
		expectNext(t, []api.Ins{jump(code, 0, 0)}, 0)
	}
	for _, n := range []int{1, 2, 3, 4096, 5000, 70000} {
		l := rets(n)
		for _, k := range []uint32{0, 1, 4094, 4095, 1 << 16, 1<<31 - 1, 1 << 31, 1<<32 - 4096, 1<<32 - 2, math.MaxUint32} {
			for _, at := range []int{0, n / 2, n - 1} {
				l[at] = ins(ja, k)
				expectNext(t, l, at, slowNext(l, at)...)
				l[at] = ret()
			}
		}
	}
}

// P5.2: of every number that a code can be, where it goes on; a code that is no instruction's goes on with the next one.
func TestNextOfEveryCode(t *testing.T) {
	for c := range 65536 {
		l := append([]api.Ins{ret(), {Code: uint16(c), Jt: 3, Jf: 1, K: 5}}, rets(8)...)
		want := []int{2}
		switch {
		case c == ja:
			want = []int{7}
		case slices.Contains(conditions, c):
			want = []int{3, 5}
		case slices.Contains(ends, c):
			want = nil
		}
		expectNext(t, l, 1, want...)
		expectNext(t, l[:2], 1)
	}
}

// P5.2: instructions of programs that may not be run go on all the same, and so do more than a program may have.
func TestNextAsksNoFaults(t *testing.T) {
	l := []api.Ins{ins(ldAbs, 2), ins(div, 0), ins(0x64, 32), ins(0x60, 16), ins(0xffff, 0), ins(0, 0)}
	for i := range 5 {
		expectNext(t, l, i, i+1)
	}
	expectNext(t, l, 5)
	long := plain(70000)
	expectNext(t, long, 4095, 4096)
	expectNext(t, long, 69998, 69999)
	expectNext(t, long, 69999)
	long[2] = ins(ja, 69996)
	expectNext(t, long, 2, 69999)
	long[2].K++
	expectNext(t, long, 2)
}

// P5.2: all places of all the programs, by the document's words.
func TestNextFollowsTheWords(t *testing.T) {
	for _, l := range programs() {
		for i := -1; i <= len(l); i++ {
			expectNext(t, l, i, slowNext(l, i)...)
		}
	}
}

// P5.3: from each instruction only to later ones, and to at least one, unless that ends it.
func TestTheoremOfGoingOn(t *testing.T) {
	for _, l := range runnable(t) {
		for i := range l {
			next := Next(l, i)
			if (len(next) == 0) != slices.Contains(ends, int(l[i].Code)) {
				t.Fatalf("%v at %d goes on to %v", l, i, next)
			}
			for _, to := range next {
				if to <= i || to >= len(l) {
					t.Fatalf("%v at %d goes on to %v", l, i, next)
				}
			}
		}
	}
}

// P5.3: with one instruction more ahead.
func TestTheoremOfOneMoreAhead(t *testing.T) {
	ahead := []api.Ins{ins(ldAbs, 0), ins(ldAbs, 60), ins(0x84, 9)}
	for _, code := range slices.Concat(cells, byK, byX, others) {
		ahead = append(ahead, ins(code, 4))
	}
	wrong := []api.Ins{ins(ldAbs, 62), ins(0x02, 16), ins(div, 0), ins(0x64, 32), ins(0x8c, 0)}
	for _, l := range runnable(t) {
		for _, i := range ahead {
			more := append([]api.Ins{i}, l...)
			if len(l) == 4096 {
				expect(t, more, api.ErrLong, 4096)
				continue
			}
			expect(t, more, api.OK, -1)
		}
		for _, i := range wrong {
			more := append([]api.Ins{i}, l...)
			want, at := slowCheck(more)
			expect(t, more, want, at)
		}
	}
}

// P5.3: the end alone, from any place on.
func TestTheoremOfEnds(t *testing.T) {
	for _, l := range runnable(t) {
		for i := range l {
			if e, at := Check(l[i:]...); e != api.OK || at != -1 {
				t.Fatalf("%.6v of %d from %d on: %v, %d", l, len(l), i, e, at)
			}
		}
	}
}

// R3: what is handed in stays as it is, and places told are the caller's own.
func TestNothingIsShared(t *testing.T) {
	for _, l := range programs()[:800] {
		kept := slices.Clone(l)
		Check(l...)
		for i := range l {
			Next(l, i)
		}
		if !slices.Equal(l, kept) {
			t.Fatalf("%v became %v", kept, l)
		}
	}
	l := append([]api.Ins{jump(0x15, 0, 2)}, rets(5)...)
	first, second := Next(l, 0), Next(l, 0)
	clear(first)
	_ = append(first[:1], 77)
	if !slices.Equal(second, []int{1, 3}) {
		t.Error("two answers share their places:", second)
	}
	expectNext(t, l, 0, 1, 3)
}
