package vm

import (
	"math"
	"slices"
	"testing"

	"fairlead/api"
	"fairlead/check"
)

// The codes are written out here once more, as numbers, so that the tests do not hang on lists of the program.
const (
	ldAbs = 0x20
	ldImm = 0x00
	lxImm = 0x01
	ldMem = 0x60
	lxMem = 0x61
	st    = 0x02
	stx   = 0x03
	neg   = 0x84
	ja    = 0x05
	retK  = 0x06
	retA  = 0x16
	tax   = 0x07
	txa   = 0x87
	x     = 0x08 // more of a code, if it takes X
)

const (
	add  = 0x04
	sub  = 0x14
	mul  = 0x24
	div  = 0x34
	or   = 0x44
	and  = 0x54
	lsh  = 0x64
	rsh  = 0x74
	xor  = 0xa4
	jeq  = 0x15
	jgt  = 0x25
	jge  = 0x35
	jset = 0x45
)

var (
	reckoning = []int{add, sub, mul, div, or, and, lsh, rsh, xor}
	asking    = []int{jeq, jgt, jge, jset}
	moving    = []int{ldAbs, ldImm, lxImm, ldMem, lxMem, st, stx, neg, tax, txa}
)

// values are numbers about which sums, products, shifts and conditions change.
var values = []uint32{
	0, 1, 2, 3, 4, 5, 7, 15, 16, 30, 31, 32, 33, 63, 64, 65, 255, 256, 65535, 65536, 65537, 0x55555555, 0xaaaaaaaa,
	1<<31 - 2, 1<<31 - 1, 1 << 31, 1<<31 + 1, 1<<32 - 33, 1<<32 - 32, 1<<32 - 2, math.MaxUint32,
}

func ins(code int, k uint32) api.Ins { return api.Ins{Code: uint16(code), K: k} }

func jump(code int, k uint32, jt, jf uint8) api.Ins {
	return api.Ins{Code: uint16(code), Jt: jt, Jf: jf, K: k}
}

// head is as much of a program as a message can show.
func head(l []api.Ins) []api.Ins { return l[:min(len(l), 12)] }

// expectRun holds what a program answers against what is asked.
func expectRun(t *testing.T, l []api.Ins, d api.Data, answer uint32, count int) {
	t.Helper()
	if a, n, e := Run(l, d); a != answer || n != count || e != api.OK {
		t.Errorf("Run of %d, %v: %#x by %d, %v, not %#x by %d", len(l), head(l), a, n, e, answer, count)
	}
}

// expectTrace holds a program's places against what is asked.
func expectTrace(t *testing.T, l []api.Ins, d api.Data, want ...int) {
	t.Helper()
	if p, e := Trace(l, d); !slices.Equal(p, want) || e != api.OK {
		t.Errorf("Trace of %d, %v: %v, %v, not %v", len(l), head(l), p, e, want)
	}
}

// slow is a run by the document's words: numbers of 64 bits, each brought below 2^32 where it was reckoned.
type slow struct {
	a, x  uint64
	cells [16]uint64
}

const round = 1 << 32

// bits puts a number together of those of 32 bits that are asked of two others.
func bits(a, b uint64, asked func(a, b uint64) bool) uint64 {
	n := uint64(0)
	for bit := range 32 {
		if asked(a>>bit&1, b>>bit&1) {
			n += 1 << bit
		}
	}
	return n
}

// power is how many times greater a number becomes that is shifted.
func power(by uint64) uint64 {
	n := uint64(1)
	for range by % 32 {
		n *= 2
	}
	return n
}

func slowReckon(code int, a, b uint64) uint64 {
	switch code {
	case add:
		return (a + b) % round
	case sub:
		return (a + round - b) % round
	case mul:
		return a * b % round
	case div:
		return (a - a%b) / b
	case or:
		return bits(a, b, func(a, b uint64) bool { return a+b > 0 })
	case and:
		return bits(a, b, func(a, b uint64) bool { return a+b == 2 })
	case xor:
		return bits(a, b, func(a, b uint64) bool { return a+b == 1 })
	case lsh:
		return a * power(b) % round
	case rsh:
		return a / power(b)
	}
	panic("no such code")
}

func slowAsk(code int, a, b uint64) bool {
	switch code {
	case jeq:
		return a == b
	case jgt:
		return a > b
	case jge:
		return a > b || a == b
	case jset:
		return slowReckon(and, a, b) > 0
	}
	panic("no such code")
}

// slowWord is a call's word at a place.
func slowWord(d api.Data, at uint32) uint64 {
	l := []uint64{uint64(d.Nr) + uint64(d.Arch)*round, d.Ip, d.Args[0], d.Args[1], d.Args[2], d.Args[3], d.Args[4], d.Args[5]}
	if at%8 == 4 {
		return l[at/8] / round
	}
	return l[at/8] % round
}

func (s *slow) move(code int, k uint32, d api.Data) {
	switch code {
	case ldAbs:
		s.a = slowWord(d, k)
	case ldImm:
		s.a = uint64(k)
	case lxImm:
		s.x = uint64(k)
	case ldMem:
		s.a = s.cells[k]
	case lxMem:
		s.x = s.cells[k]
	case st:
		s.cells[k] = s.a
	case stx:
		s.cells[k] = s.x
	case neg:
		s.a = (round - s.a) % round
	case tax:
		s.x = s.a
	case txa:
		s.a = s.x
	default:
		panic("no such code")
	}
}

// slowRun is what a program that may be run answers, and its places.
func slowRun(l []api.Ins, d api.Data) (uint32, []int) {
	var s slow
	var places []int
	at := 0
	for {
		places = append(places, at)
		i, code, other := l[at], int(l[at].Code), uint64(l[at].K)
		at++
		if base := code - x; slices.Contains(reckoning, base) || slices.Contains(asking, base) {
			code, other = base, s.x
		}
		switch {
		case code == retK:
			return i.K, places
		case code == retA:
			return uint32(s.a), places
		case code == div && other == 0:
			return 0, places
		case code == ja:
			at += int(i.K)
		case slices.Contains(reckoning, code):
			s.a = slowReckon(code, s.a, other)
		case slices.Contains(asking, code) && slowAsk(code, s.a, other):
			at += int(i.Jt)
		case slices.Contains(asking, code):
			at += int(i.Jf)
		default:
			s.move(code, i.K, d)
		}
	}
}

// chance is a row of numbers that look scattered, and are the same at each run of the tests.
type chance uint64

func (c *chance) below(n int) int {
	*c = *c*6364136223846793005 + 1442695040888963407
	return int(uint64(*c>>33) % uint64(n))
}

func (c *chance) word() uint32 {
	if c.below(2) == 0 {
		return values[c.below(len(values))]
	}
	return uint32(c.below(1<<16))<<16 | uint32(c.below(1<<16))
}

func (c *chance) call() api.Data {
	d := api.Data{Nr: c.word(), Arch: c.word(), Ip: uint64(c.word())<<32 | uint64(c.word())}
	for arg := range d.Args {
		d.Args[arg] = uint64(c.word())<<32 | uint64(c.word())
	}
	return d
}

// instruction is one that may stand where so many are behind it.
func (c *chance) instruction(behind int) api.Ins {
	near := uint8(c.below(min(behind, 256)))
	far := uint8(c.below(min(behind, 4)))
	i := api.Ins{Jt: near, Jf: far, K: c.word()}
	switch c.below(12) {
	case 0:
		i.Code, i.K = ldAbs, uint32(c.below(16)*4)
	case 1:
		i.Code, i.K = uint16([]int{ldMem, lxMem}[c.below(2)]), uint32(c.below(3)*7)
	case 2:
		i.Code, i.K = uint16([]int{st, stx}[c.below(2)]), uint32(c.below(3)*7)
	case 3:
		i.Code = uint16([]int{ldImm, lxImm}[c.below(2)])
	case 4:
		i.Code = uint16([]int{neg, tax, txa}[c.below(3)])
	case 5, 6:
		i.Code = uint16(reckoning[c.below(len(reckoning))])
		if i.Code == div || i.Code == lsh || i.Code == rsh {
			i.K = 1 + i.K%31
		}
	case 7:
		i.Code = uint16(reckoning[c.below(len(reckoning))] + x)
	case 8, 9:
		i.Code = uint16(asking[c.below(len(asking))] + x*c.below(2))
	case 10:
		i.Code, i.K = ja, uint32(far)
	case 11:
		if c.below(4) > 0 {
			i.Code, i.Jt = jeq, far // a program that ended at each twelfth would seldom come far
		} else {
			i.Code = uint16([]int{retK, retA}[c.below(2)])
		}
	}
	return i
}

// program is one of so many instructions that may be run.
func (c *chance) program(n int) []api.Ins {
	var l []api.Ins
	for at := range n - 1 {
		l = append(l, c.instruction(n-1-at))
	}
	return append(l, ins([]int{retA, retA, retA, retK}[c.below(4)], c.word()))
}

// sample is a program and a call.
type sample struct {
	l []api.Ins
	d api.Data
}

// scattered are programs that may be run, each with a call.
func scattered(t *testing.T) []sample {
	t.Helper()
	c := chance(6)
	var all []sample
	for round := range 6000 {
		n := 1 + round%60
		if round%200 == 0 {
			n = 4096
		}
		s := sample{c.program(n), c.call()}
		if e, at := check.Check(s.l...); e != api.OK {
			t.Fatalf("%v at %d of %v", e, at, s.l)
		}
		all = append(all, s)
	}
	return all
}

// P6.1, P6.2: the chapter's examples.
func TestExamples(t *testing.T) {
	expectRun(t, []api.Ins{ins(retK, 7)}, api.Data{}, 7, 1)
	expectTrace(t, []api.Ins{ins(retK, 7)}, api.Data{}, 0)
	l := []api.Ins{ins(ldAbs, 0), jump(jeq, 5, 0, 1), ins(retK, 1), ins(retK, 2)}
	expectRun(t, l, api.Data{Nr: 5}, 1, 3)
	expectTrace(t, l, api.Data{Nr: 5}, 0, 1, 2)
	for _, nr := range []uint32{0, 4, 6, 5 << 8, math.MaxUint32} {
		expectRun(t, l, api.Data{Nr: nr}, 2, 3)
		expectTrace(t, l, api.Data{Nr: nr}, 0, 1, 3)
	}
	l = []api.Ins{ins(ldImm, 1), ins(div+x, 0), ins(retA, 0)}
	expectRun(t, l, api.Data{}, 0, 2)
	expectTrace(t, l, api.Data{}, 0, 1)
}

// P6.1, P6.2: programs that may not be run, by each of the check's errors; even where a run would not come by the fault.
func TestProgramsThatMayNotBeRun(t *testing.T) {
	ret := ins(retK, 7)
	wrong := []struct {
		l []api.Ins
		e api.Errno
	}{
		{nil, api.ErrEmpty},
		{[]api.Ins{}, api.ErrEmpty},
		{slices.Repeat([]api.Ins{ret}, 4097), api.ErrLong},
		{slices.Repeat([]api.Ins{ret}, 70000), api.ErrLong},
		{[]api.Ins{ret, ins(0x8c, 0), ret}, api.ErrCode},
		{[]api.Ins{ins(0xffff, 0), ret}, api.ErrCode},
		{[]api.Ins{ins(0x106, 0)}, api.ErrCode},
		{[]api.Ins{ins(ldAbs, 2), ret}, api.ErrLoad},
		{[]api.Ins{ret, ins(ldAbs, 64), ret}, api.ErrLoad},
		{[]api.Ins{ret, ins(st, 16), ret}, api.ErrLoad},
		{[]api.Ins{ins(lxMem, 16), ret}, api.ErrLoad},
		{[]api.Ins{ins(ldImm, 6), ins(div, 0), ret}, api.ErrZero},
		{[]api.Ins{ret, ins(lsh, 32), ret}, api.ErrZero},
		{[]api.Ins{ret, ins(rsh, math.MaxUint32), ret}, api.ErrZero},
		{[]api.Ins{ins(ja, 0)}, api.ErrJump},
		{[]api.Ins{ret, ins(ja, math.MaxUint32), ret}, api.ErrJump},
		{[]api.Ins{jump(jeq, 0, 0, 255), ret}, api.ErrJump},
		{[]api.Ins{jump(jset+x, 0, 1, 0), ret}, api.ErrJump},
		{[]api.Ins{ins(ldImm, 7)}, api.ErrEnd},
		{[]api.Ins{ret, ins(txa, 0)}, api.ErrEnd},
		{[]api.Ins{ins(ldAbs, 2), ins(0x8c, 0), ins(div, 0)}, api.ErrLoad},
	}
	for _, w := range wrong {
		for _, d := range []api.Data{{}, {Nr: 5, Arch: api.Arch, Ip: 9}} {
			if a, n, e := Run(w.l, d); a != 0 || n != 0 || e != w.e {
				t.Errorf("Run of %v: %d, %d, %v, not %v", head(w.l), a, n, e, w.e)
			}
			if p, e := Trace(w.l, d); len(p) != 0 || e != w.e {
				t.Errorf("Trace of %v: %v, %v, not %v", head(w.l), p, e, w.e)
			}
		}
	}
}

// P6.1: what is moved between A, X and the cells, with numbers whose every byte is another one.
func TestMoves(t *testing.T) {
	n, m := uint32(0x81020304), uint32(0xf5a6c7e8)
	for _, c := range []struct {
		l    []api.Ins
		want uint32
	}{
		{[]api.Ins{ins(retK, n)}, n},
		{[]api.Ins{ins(retA, n)}, 0},
		{[]api.Ins{ins(ldImm, n), ins(retA, m)}, n},
		{[]api.Ins{ins(ldImm, n), ins(retK, m)}, m},
		{[]api.Ins{ins(lxImm, n), ins(retA, 0)}, 0},
		{[]api.Ins{ins(lxImm, n), ins(txa, 0), ins(retA, 0)}, n},
		{[]api.Ins{ins(ldImm, n), ins(txa, 0), ins(retA, 0)}, 0},
		{[]api.Ins{ins(ldImm, n), ins(tax, 0), ins(retA, 0)}, n},
		{[]api.Ins{ins(ldImm, n), ins(tax, 0), ins(ldImm, m), ins(txa, 0), ins(retA, 0)}, n},
		{[]api.Ins{ins(lxImm, n), ins(txa, 0), ins(ldImm, m), ins(txa, 0), ins(retA, 0)}, n},
		{[]api.Ins{ins(ldImm, n), ins(lxImm, m), ins(retA, 0)}, n},
		{[]api.Ins{ins(ldImm, n), ins(ldImm, m), ins(retA, 0)}, m},
		{[]api.Ins{ins(lxImm, n), ins(lxImm, m), ins(txa, 0), ins(retA, 0)}, m},
	} {
		expectRun(t, c.l, api.Data{}, c.want, len(c.l))
	}
}

// P6.1: cells that were never filled are 0, those that are loaded take the place of what A or X was.
func TestCellsNeverFilled(t *testing.T) {
	for k := range uint32(16) {
		expectRun(t, []api.Ins{ins(ldImm, 9), ins(ldMem, k), ins(retA, 0)}, api.Data{}, 0, 3)
		expectRun(t, []api.Ins{ins(lxImm, 9), ins(lxMem, k), ins(txa, 0), ins(retA, 0)}, api.Data{}, 0, 4)
		l := []api.Ins{ins(ldImm, 9), ins(lxImm, 9), ins(lxMem, k), ins(div+x, 0), ins(retK, 3)}
		expectRun(t, l, api.Data{}, 0, 4)
	}
}

// P6.1: each cell keeps what was filled into it last, from A or from X, whatever the others get.
func TestCells(t *testing.T) {
	var fill []api.Ins
	for k := range uint32(16) {
		fill = append(fill, ins(ldImm, 1000+k), ins(st, k))
	}
	for k := range uint32(16) {
		expectRun(t, append(slices.Clone(fill), ins(ldMem, k), ins(retA, 0)), api.Data{}, 1000+k, 34)
		expectRun(t, append(slices.Clone(fill), ins(lxMem, k), ins(txa, 0), ins(retA, 0)), api.Data{}, 1000+k, 35)
		again := append(slices.Clone(fill), ins(lxImm, 1<<31+k), ins(stx, k), ins(lxImm, 0), ins(ldImm, 5))
		expectRun(t, append(slices.Clone(again), ins(ldMem, k), ins(retA, 0)), api.Data{}, 1<<31+k, 38)
		expectRun(t, append(slices.Clone(again), ins(ldMem, 15-k), ins(retA, 0)), api.Data{}, 1015-k, 38)
	}
	l := []api.Ins{ins(ldImm, 3), ins(lxImm, 4), ins(st, 0), ins(stx, 15), ins(ldMem, 15), ins(lxMem, 0), ins(sub+x, 0), ins(retA, 0)}
	expectRun(t, l, api.Data{}, 1, 8)
	l = []api.Ins{ins(ldImm, 3), ins(st, 15), ins(ldImm, 0), ins(st, 15), ins(ldImm, 8), ins(ldMem, 15), ins(retA, 0)}
	expectRun(t, l, api.Data{}, 0, 7)
	l = []api.Ins{ins(ldImm, 3), ins(lxImm, 4), ins(st, 0), ins(stx, 15), ins(retA, 0)}
	expectRun(t, l, api.Data{}, 3, 5)
	l[4] = ins(txa, 0)
	expectRun(t, append(l, ins(retA, 0)), api.Data{}, 4, 6)
}

// P6.1: cells and numbers of one run are nothing to the next one.
func TestRunsBeginAnew(t *testing.T) {
	full := []api.Ins{ins(ldImm, 9), ins(lxImm, 8), ins(st, 0), ins(stx, 15), ins(retA, 0)}
	for range 3 {
		expectRun(t, full, api.Data{}, 9, 5)
		expectRun(t, []api.Ins{ins(ldMem, 0), ins(retA, 0)}, api.Data{}, 0, 2)
		expectRun(t, []api.Ins{ins(ldMem, 15), ins(retA, 0)}, api.Data{}, 0, 2)
		expectRun(t, []api.Ins{ins(retA, 0)}, api.Data{}, 0, 1)
		expectRun(t, []api.Ins{ins(ldImm, 5), ins(txa, 0), ins(retA, 0)}, api.Data{}, 0, 3)
	}
}

// P6.1: LdAbs at every place from 0 to 60; the words are numbered by their places.
func TestLoads(t *testing.T) {
	d := api.Data{Nr: 0x80000000, Arch: 0x80000004, Ip: 0x8000000c_80000008}
	for arg := range d.Args {
		at := uint64(16 + 8*arg)
		d.Args[arg] = (0x80000000+at+4)<<32 | 0x80000000 + at
	}
	for at := uint32(0); at <= 60; at += 4 {
		expectRun(t, []api.Ins{ins(ldImm, 5), ins(ldAbs, at), ins(retA, 0)}, d, 0x80000000+at, 3)
		expectRun(t, []api.Ins{ins(ldImm, 5), ins(ldAbs, at), ins(retA, 0)}, api.Data{}, 0, 3)
		expectRun(t, []api.Ins{ins(lxImm, 5), ins(ldAbs, at), ins(txa, 0), ins(retA, 0)}, d, 5, 4)
	}
}

// P6.1: every code that reckons, by K and by X, of all pairs of the numbers.
func TestReckoning(t *testing.T) {
	for _, code := range reckoning {
		for _, a := range values {
			for _, b := range values {
				shiftsOut := (code == lsh || code == rsh) && b > 31
				if code == div && b == 0 || shiftsOut {
					continue // by K the check asks for these; by X they have tests of their own
				}
				want := uint32(slowReckon(code, uint64(a), uint64(b)))
				expectRun(t, []api.Ins{ins(ldImm, a), ins(lxImm, ^b), ins(code, b), ins(retA, 0)}, api.Data{}, want, 4)
				expectRun(t, []api.Ins{ins(ldImm, a), ins(lxImm, b), ins(code+x, ^b), ins(retA, 0)}, api.Data{}, want, 4)
				l := []api.Ins{ins(ldImm, a), ins(lxImm, b), ins(code+x, 0), ins(txa, 0), ins(retA, 0)}
				expectRun(t, l, api.Data{}, b, 5) // X stays
			}
		}
	}
}

// by is what becomes of A by X.
func by(code int, a, b uint32) []api.Ins {
	return []api.Ins{ins(ldImm, a), ins(lxImm, b), ins(code+x, 0), ins(retA, 0)}
}

// P6.1: numbers that go round at 2^32, written out.
func TestNumbersGoRound(t *testing.T) {
	for _, c := range []struct {
		code       int
		a, b, want uint32
	}{
		{add, math.MaxUint32, 1, 0}, {add, math.MaxUint32, math.MaxUint32, math.MaxUint32 - 1}, {add, 1 << 31, 1 << 31, 0},
		{add, 1<<31 - 1, 1, 1 << 31}, {add, math.MaxUint32, 0, math.MaxUint32}, {sub, 0, 1, math.MaxUint32},
		{sub, 1, math.MaxUint32, 2}, {sub, 1 << 31, math.MaxUint32, 1<<31 + 1}, {sub, 5, 5, 0},
		{mul, 1 << 16, 1 << 16, 0}, {mul, 65537, 65537, 131073}, {mul, math.MaxUint32, math.MaxUint32, 1},
		{mul, 1 << 31, 3, 1 << 31}, {mul, 1 << 31, 2, 0}, {lsh, math.MaxUint32, 4, 0xfffffff0}, {lsh, 3, 31, 1 << 31},
		{rsh, math.MaxUint32, 31, 1}, {rsh, 1 << 31, 31, 1}, {rsh, 1 << 31, 1, 1 << 30}, {div, math.MaxUint32, 2, 1<<31 - 1},
		{div, 7, 2, 3}, {div, 1, 2, 0}, {div, 1 << 31, math.MaxUint32, 0}, {div, math.MaxUint32, 1 << 31, 1},
		{div, math.MaxUint32, math.MaxUint32, 1}, {or, 0xf0f0, 0xff00, 0xfff0}, {and, 0xf0f0, 0xff00, 0xf000},
		{xor, 0xf0f0, 0xff00, 0x0ff0}, {xor, math.MaxUint32, math.MaxUint32, 0},
	} {
		expectRun(t, []api.Ins{ins(ldImm, c.a), ins(c.code, c.b), ins(retA, 0)}, api.Data{}, c.want, 3)
		expectRun(t, by(c.code, c.a, c.b), api.Data{}, c.want, 4)
	}
}

// P6.1: Div ByX ends the run with 0 if X is 0, whatever A, K and the next instructions are; and else goes on.
func TestDivisionByX(t *testing.T) {
	for _, a := range values {
		for _, k := range []uint32{0, 1, math.MaxUint32} {
			l := []api.Ins{ins(ldImm, a), ins(div+x, k), ins(retK, 77)}
			expectRun(t, l, api.Data{}, 0, 2)
			expectTrace(t, l, api.Data{}, 0, 1)
			l = []api.Ins{ins(ldImm, a), ins(lxImm, 1), ins(div+x, k), ins(retA, 77)}
			expectRun(t, l, api.Data{}, a, 4)
			expectTrace(t, l, api.Data{}, 0, 1, 2, 3)
		}
	}
	expectRun(t, []api.Ins{ins(div+x, 0), ins(retK, 77)}, api.Data{}, 0, 1)
	expectRun(t, by(div, 100, 7), api.Data{}, 14, 4)
	expectRun(t, []api.Ins{ins(ldImm, 100), ins(div, 7), ins(retA, 0)}, api.Data{}, 14, 3) // by K, though X is 0
}

// P6.1: no other code ends a run when X is 0.
func TestOthersGoOnByNought(t *testing.T) {
	for _, code := range reckoning {
		if code != div {
			expectRun(t, []api.Ins{ins(ldImm, 9), ins(code+x, 0), ins(retK, 77)}, api.Data{}, 77, 3)
		}
	}
	for _, code := range asking {
		expectRun(t, []api.Ins{ins(ldImm, 9), jump(code+x, 0, 0, 0), ins(retK, 77)}, api.Data{}, 77, 3)
	}
	for _, code := range moving {
		expectRun(t, []api.Ins{ins(code, 0), ins(retK, 77)}, api.Data{}, 77, 2)
	}
}

// P6.1: shifts by X go by X modulo 32.
func TestShiftsByX(t *testing.T) {
	a := uint32(0x90000009)
	for _, c := range []struct{ by, left, right uint32 }{
		{0, a, a}, {1, 0x20000012, 0x48000004}, {31, 0x80000000, 1}, {32, a, a}, {33, 0x20000012, 0x48000004},
		{63, 0x80000000, 1}, {64, a, a}, {1 << 31, a, a}, {1<<31 + 1, 0x20000012, 0x48000004}, {1<<32 - 32, a, a},
		{1<<32 - 31, 0x20000012, 0x48000004}, {math.MaxUint32, 0x80000000, 1},
	} {
		expectRun(t, by(lsh, a, c.by), api.Data{}, c.left, 4)
		expectRun(t, by(rsh, a, c.by), api.Data{}, c.right, 4)
	}
	for _, n := range values {
		for _, code := range []int{lsh, rsh} {
			expectRun(t, by(code, a, n), api.Data{}, uint32(slowReckon(code, uint64(a), uint64(n))), 4)
		}
	}
}

// P6.1: Neg is 0 less A.
func TestNeg(t *testing.T) {
	for a, want := range map[uint32]uint32{
		0: 0, 1: math.MaxUint32, math.MaxUint32: 1, 1 << 31: 1 << 31, 1<<31 - 1: 1<<31 + 1, 1<<31 + 1: 1<<31 - 1, 5: 0xfffffffb,
	} {
		expectRun(t, []api.Ins{ins(ldImm, a), ins(lxImm, 9), ins(neg, 77), ins(retA, 0)}, api.Data{}, want, 4)
		expectRun(t, []api.Ins{ins(ldImm, a), ins(lxImm, 9), ins(neg, 77), ins(txa, 0), ins(retA, 0)}, api.Data{}, 9, 5)
	}
}

// P6.1: every condition, by K and by X, of all pairs of the numbers.
func TestConditions(t *testing.T) {
	for _, code := range asking {
		for _, a := range values {
			for _, b := range values {
				want, at := uint32(2), 4
				if slowAsk(code, uint64(a), uint64(b)) {
					want, at = 1, 3
				}
				l := []api.Ins{ins(ldImm, a), ins(lxImm, ^b), jump(code, b, 0, 1), ins(retK, 1), ins(retK, 2)}
				expectRun(t, l, api.Data{}, want, 4)
				expectTrace(t, l, api.Data{}, 0, 1, 2, at)
				l = []api.Ins{ins(ldImm, a), ins(lxImm, b), jump(code+x, ^b, 0, 1), ins(retK, 1), ins(retK, 2)}
				expectRun(t, l, api.Data{}, want, 4)
				expectTrace(t, l, api.Data{}, 0, 1, 2, at)
			}
		}
	}
}

// P6.1: numbers with the highest bit are the greater ones; written out.
func TestConditionsOfTheHighestBit(t *testing.T) {
	top := uint32(1 << 31)
	for _, c := range []struct {
		code int
		a, b uint32
		want bool
	}{
		{jgt, top, top - 1, true}, {jgt, top - 1, top, false}, {jgt, top, top, false}, {jgt, math.MaxUint32, 0, true},
		{jgt, 0, math.MaxUint32, false}, {jgt, math.MaxUint32, top, true}, {jge, top, top, true}, {jge, top, top - 1, true},
		{jge, top - 1, top, false}, {jge, 0, top, false}, {jge, math.MaxUint32, math.MaxUint32, true}, {jge, 0, 0, true},
		{jgt, 0, 0, false}, {jset, top, top, true}, {jset, top, top - 1, false}, {jset, math.MaxUint32, top, true},
		{jset, 0, math.MaxUint32, false}, {jset, math.MaxUint32, 0, false}, {jset, 6, 3, true}, {jset, 5, 10, false},
		{jeq, top, top, true}, {jeq, top, 0, false}, {jeq, top + 5, 5, false}, {jeq, 0, 0, true},
	} {
		want := uint32(2)
		if c.want {
			want = 1
		}
		l := []api.Ins{ins(ldImm, c.a), jump(c.code, c.b, 0, 1), ins(retK, 1), ins(retK, 2)}
		expectRun(t, l, api.Data{}, want, 3)
		l = []api.Ins{ins(ldImm, c.a), ins(lxImm, c.b), jump(c.code+x, 0, 0, 1), ins(retK, 1), ins(retK, 2)}
		expectRun(t, l, api.Data{}, want, 4)
	}
}

// numbered is a program whose every instruction answers its place.
func numbered(n int) []api.Ins {
	var l []api.Ins
	for at := range n {
		l = append(l, ins(retK, uint32(at)))
	}
	return l
}

// P6.1, P6.2: jumps by Jt and Jf of 0 and 255 and between; the condition is so of 6, and not of 1.
func TestJumps(t *testing.T) {
	for _, code := range asking {
		for _, far := range []int{0, 1, 2, 127, 128, 254, 255} {
			k := uint32(6)
			if code == jgt {
				k = 5
			}
			l := numbered(260)
			l[0], l[1] = ins(ldImm, 6), jump(code, k, uint8(far), uint8(255-far))
			expectRun(t, l, api.Data{}, uint32(2+far), 3)
			expectTrace(t, l, api.Data{}, 0, 1, 2+far)
			l[0] = ins(ldImm, 1)
			expectRun(t, l, api.Data{}, uint32(257-far), 3)
			expectTrace(t, l, api.Data{}, 0, 1, 257-far)
		}
	}
}

// P6.1, P6.2: Ja goes K further on, whatever A, Jt and Jf are.
func TestFarJumps(t *testing.T) {
	l := numbered(4096)
	for _, k := range []uint32{0, 1, 2, 255, 256, 257, 2048, 4093, 4094} {
		l[0] = jump(ja, k, 3, 200)
		expectRun(t, l, api.Data{}, 1+k, 2)
		expectTrace(t, l, api.Data{}, 0, int(1+k))
	}
	l[0], l[9] = ins(ldImm, 5), ins(ldImm, 7)
	l[1], l[8], l[10] = ins(ja, 6), ins(ja, 0), ins(ja, 4084)
	expectRun(t, l, api.Data{}, 4095, 6)
	expectTrace(t, l, api.Data{}, 0, 1, 8, 9, 10, 4095)
}

// P6.1: a jump leaves A, X and the cells as they are.
func TestJumpsChangeNothing(t *testing.T) {
	for _, code := range append([]int{ja, jeq + x, jgt + x, jge + x, jset + x}, asking...) {
		l := []api.Ins{
			ins(ldImm, 6), ins(lxImm, 5), ins(st, 4), jump(code, 0, 0, 0), ins(mul+x, 0), ins(lxMem, 4), ins(add+x, 0), ins(retA, 0),
		}
		expectRun(t, l, api.Data{}, 36, 8)
	}
}

// P6.1, P6.2: numbers that an instruction does not ask for change nothing.
func TestNumbersThatAreNotAsked(t *testing.T) {
	for _, code := range slices.Concat(moving, reckoning) {
		plain := []api.Ins{ins(ldImm, 0x1234), ins(lxImm, 5), ins(code, 4), ins(add+x, 0), ins(retA, 0)}
		odd := slices.Clone(plain)
		for at := range odd {
			odd[at].Jt, odd[at].Jf = 255, uint8(at)
		}
		odd[4].K = 99
		want, places := slowRun(plain, api.Data{Arch: 8})
		expectRun(t, odd, api.Data{Arch: 8}, want, len(places))
		expectTrace(t, odd, api.Data{Arch: 8}, places...)
	}
}

// P6.1, P6.2: a program of 4096 instructions that are all gone through, of one kind and of many.
func TestLongest(t *testing.T) {
	var all []int
	for at := range 4096 {
		all = append(all, at)
	}
	l := append(slices.Repeat([]api.Ins{ins(add, 3)}, 4095), ins(retA, 0))
	expectRun(t, l, api.Data{}, 3*4095, 4096)
	expectTrace(t, l, api.Data{}, all...)
	l = append(slices.Repeat([]api.Ins{ins(ja, 0)}, 4095), ins(retK, 8))
	expectRun(t, l, api.Data{}, 8, 4096)
	expectTrace(t, l, api.Data{}, all...)
	kinds := []api.Ins{
		ins(ldAbs, 8), ins(st, 15), ins(lxMem, 0), ins(add+x, 0), ins(mul, 3), ins(tax, 0), ins(stx, 0), jump(jgt, 9, 0, 0), ins(neg, 0),
	}
	l = append(slices.Repeat(kinds, 455), ins(retA, 0))
	d := api.Data{Ip: 12345}
	want, places := slowRun(l, d)
	expectRun(t, l, d, want, 4096)
	expectTrace(t, l, d, places...)
	if want == 0 || !slices.Equal(places, all) {
		t.Error("the program was to go through all of it:", want, len(places))
	}
	divided := append(slices.Repeat([]api.Ins{ins(ldImm, 1)}, 4094), ins(div+x, 0), ins(retK, 5))
	expectRun(t, divided, api.Data{}, 0, 4095)
	expectTrace(t, divided, api.Data{}, all[:4095]...)
}

// P6.1, P6.2: all the programs, by the document's words; every code is gone through, and every way to end is met.
func TestRunsFollowTheWords(t *testing.T) {
	gone, ended, other := map[uint16]int{}, map[uint16]int{}, 0
	for _, s := range scattered(t) {
		want, places := slowRun(s.l, s.d)
		expectRun(t, s.l, s.d, want, len(places))
		expectTrace(t, s.l, s.d, places...)
		for _, at := range places {
			gone[s.l[at].Code]++
		}
		ended[s.l[places[len(places)-1]].Code]++
		if want > 0 {
			other++
		}
	}
	if len(gone) != 39 || len(ended) != 3 || other < 2000 {
		t.Errorf("%d codes were gone through, %v ended a run, %d answers were no nought", len(gone), ended, other)
	}
}

// P6.3: rising places, at most all of them, from the first one on; the last one ends the run, or divides.
func TestTheoremOfPlaces(t *testing.T) {
	for _, s := range scattered(t) {
		places, e := Trace(s.l, s.d)
		answer, n, wrong := Run(s.l, s.d)
		if e != api.OK || wrong != api.OK || n != len(places) || n < 1 || n > len(s.l) || places[0] != 0 {
			t.Fatalf("%v: %v, %v, %d, %v", s.l, places, e, n, wrong)
		}
		for i, at := range places[1:] {
			if at <= places[i] || at >= len(s.l) || !slices.Contains(check.Next(s.l, places[i]), at) {
				t.Fatalf("%v: %v", s.l, places)
			}
		}
		switch last := s.l[places[n-1]]; {
		case last.Code == retA:
		case last.Code == retK && answer == last.K:
		case last.Code == div+x && answer == 0:
		default:
			t.Fatalf("%v ends with %v: %d", s.l, last, answer)
		}
	}
}

// P6.3: what stands at places that a run does not go through does not matter.
func TestTheoremOfOtherPlaces(t *testing.T) {
	c, changed := chance(63), 0
	for _, s := range scattered(t) {
		answer, n, _ := Run(s.l, s.d)
		places, _ := Trace(s.l, s.d)
		for range 3 {
			l := slices.Clone(s.l)
			for at := range l[:len(l)-1] {
				if !slices.Contains(places, at) {
					l[at] = c.instruction(len(l) - 1 - at)
					changed++
				}
			}
			if places[n-1] < len(l)-1 {
				l[len(l)-1] = ins(retK, c.word())
			}
			expectRun(t, l, s.d, answer, n)
			expectTrace(t, l, s.d, places...)
		}
	}
	if changed < 10000 {
		t.Error("only so many instructions were changed:", changed)
	}
}

// P6.3: as long as the program may be run: a fault at a place that no run goes through is told.
func TestTheoremAsksThatTheProgramMayBeRun(t *testing.T) {
	l := []api.Ins{ins(ja, 1), ins(ldImm, 1), ins(retK, 7)}
	expectRun(t, l, api.Data{}, 7, 2)
	for _, i := range []api.Ins{ins(0x8c, 0), ins(ldAbs, 62), ins(div, 0), ins(ja, 1)} {
		l[1] = i
		want, _ := check.Check(l...)
		if a, n, e := Run(l, api.Data{}); a != 0 || n != 0 || e != want || e == api.OK {
			t.Errorf("Run of %v: %d, %d, %v, not %v", l, a, n, e, want)
		}
		if p, e := Trace(l, api.Data{}); len(p) != 0 || e != want {
			t.Errorf("Trace of %v: %v, %v, not %v", l, p, e, want)
		}
	}
}

// R3: what is handed in stays as it is, and places told are the caller's own.
func TestNothingIsShared(t *testing.T) {
	for _, s := range scattered(t)[:400] {
		kept := slices.Clone(s.l)
		Run(s.l, s.d)
		first, _ := Trace(s.l, s.d)
		second, _ := Trace(s.l, s.d)
		if !slices.Equal(s.l, kept) {
			t.Fatalf("%v became %v", kept, s.l)
		}
		told := slices.Clone(second)
		clear(first[:cap(first)])
		if !slices.Equal(second, told) {
			t.Fatal("two answers share their places:", second, told)
		}
		expectTrace(t, s.l, s.d, told...)
	}
}

// R2: a program is its instructions, whatever stands behind them in the caller's memory.
func TestProgramsWithinLongerOnes(t *testing.T) {
	l := []api.Ins{ins(ldImm, 4), ins(retA, 0), ins(ldImm, 5), ins(retA, 0)}
	expectRun(t, l[:2], api.Data{}, 4, 2)
	expectRun(t, l[2:], api.Data{}, 5, 2)
	if a, n, e := Run(l[:3], api.Data{}); a != 0 || n != 0 || e != api.ErrEnd {
		t.Error(a, n, e)
	}
	if a, n, e := Run(l[:0], api.Data{}); a != 0 || n != 0 || e != api.ErrEmpty {
		t.Error(a, n, e)
	}
}
