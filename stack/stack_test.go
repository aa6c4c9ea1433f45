package stack

import (
	"fmt"
	"math"
	"slices"
	"testing"

	"fairlead/api"
	"fairlead/compile"
	"fairlead/mean"
	"fairlead/parse"
	"fairlead/vm"
)

// The document's numbers, written out.
const (
	wrongLong  = 4
	wrongEmpty = 10
	wrongCode  = 11
	wrongLoad  = 12
	wrongZero  = 13
	wrongJump  = 14
	wrongEnd   = 15
	wrongFull  = 16

	mostIns     = 4096
	mostFilters = 32
	mostCost    = 32768

	arch = 0xC000003E

	killed  = 0x80000000
	thread  = 0x00000000
	trapped = 0x00030000
	refused = 0x00050000
	asked   = 0x7fc00000
	traced  = 0x7ff00000
	logged  = 0x7ffc0000
	allowed = 0x7fff0000
)

// rising are the acts' numbers, from that which forbids most on.
var rising = []uint32{killed, thread, trapped, refused, asked, traced, logged, allowed}

// forbids is the kind of an answer, by the table of chapter 7: the less, the more it forbids.
func forbids(v uint32) int {
	if at := slices.Index(rising, v-v%65536); at >= 0 {
		return at + 1
	}
	return 1
}

// answers are some of each kind, without a number beside them and with several, and some that are no act's.
func answers() []uint32 {
	l := []uint32{0x12340000, 0x1234abcd, 0x00010000, 0x7ffe0000, 0xffff0000, 0xffffffff}
	for _, number := range rising {
		l = append(l, number, number+1, number+2, number+65535)
	}
	return l
}

// few are those of two of each kind, and one of no act's.
func few() []uint32 {
	l := []uint32{0x12340000}
	for _, number := range rising {
		l = append(l, number, number+1)
	}
	return l
}

func ins(code int, k uint32) api.Ins { return api.Ins{Code: uint16(code), K: k} }

func ret(k uint32) []api.Ins { return []api.Ins{ins(api.RetK, k)} }

// word is a program that answers the word of a call at a place.
func word(at int) []api.Ins { return []api.Ins{ins(api.LdAbs, uint32(4*at)), ins(api.RetA, 0)} }

// words is a call of these sixteen words, from the first place on.
func words(l ...uint32) api.Data {
	var w [16]uint32
	copy(w[:], l)
	d := api.Data{Nr: w[0], Arch: w[1], Ip: uint64(w[3])<<32 + uint64(w[2])}
	for i := range d.Args {
		d.Args[i] = uint64(w[5+2*i])<<32 + uint64(w[4+2*i])
	}
	return d
}

// long is a program of so many instructions that answers k.
func long(n int, k uint32) []api.Ins { return slices.Repeat(ret(k), n) }

// ofCost is a program that costs so much, and answers k.
func ofCost(cost int, k uint32) []api.Ins { return long(cost-4, k) }

// faulty is a program that may not be run, and why.
type faulty struct {
	l    []api.Ins
	want api.Errno
}

// faults are programs with each error of chapter 5, short ones and ones as long as there may be.
func faults() []faulty {
	end := ret(allowed)
	all := []faulty{
		{nil, wrongEmpty}, {[]api.Ins{}, wrongEmpty}, {make([]api.Ins, 0, 9), wrongEmpty},
		{long(mostIns+1, allowed), wrongLong}, {long(2*mostIns, allowed), wrongLong}, {long(mostCost+1, allowed), wrongLong},
		{make([]api.Ins, mostIns+1), wrongLong},
		{append([]api.Ins{ins(0xffff, 0)}, end...), wrongCode}, {[]api.Ins{ins(0x8c, 0)}, wrongCode},
		{append([]api.Ins{ins(api.LdAbs, 2)}, end...), wrongLoad}, {append([]api.Ins{ins(api.LdAbs, 64)}, end...), wrongLoad},
		{append([]api.Ins{ins(api.LdMem, 16)}, end...), wrongLoad}, {append([]api.Ins{ins(api.Stx, 16)}, end...), wrongLoad},
		{append([]api.Ins{ins(api.Div, 0)}, end...), wrongZero}, {append([]api.Ins{ins(api.Rsh, 32)}, end...), wrongZero},
		{[]api.Ins{ins(api.Ja, 0)}, wrongJump}, {append([]api.Ins{ins(api.Ja, math.MaxUint32)}, end...), wrongJump},
		{append([]api.Ins{{Code: api.Jeq, Jt: 0, Jf: 1}}, end...), wrongJump},
		{[]api.Ins{ins(api.LdImm, 0)}, wrongEnd}, {append(slices.Clone(end), ins(api.Tax, 0)), wrongEnd},
	}
	for _, f := range slices.Clone(all) {
		if f.want > wrongEmpty {
			all = append(all, faulty{append(long(mostIns-len(f.l), 0), f.l...), f.want})
		}
	}
	return all
}

// tower is a stack by the document's words: its filters one by one, the oldest first.
type tower [][]api.Ins

func (w tower) cost() int {
	sum := 0
	for _, l := range w {
		sum += len(l) + 4
	}
	return sum
}

// run asks all filters, and goes through the answers once for each kind, from that which forbids most on.
func (w tower) run(d api.Data) (uint32, int) {
	for kind := 1; kind <= 8; kind++ {
		for at := len(w) - 1; at >= 0; at-- {
			if v, _, _ := vm.Run(w[at], d); forbids(v) == kind {
				return v, at
			}
		}
	}
	return allowed, -1
}

func (w tower) attach(l []api.Ins) (tower, api.Errno) {
	if _, _, wrong := vm.Run(l, api.Data{}); wrong != 0 {
		return w, wrong
	}
	if more := append(slices.Clone(w), slices.Clone(l)); len(more) <= mostFilters && more.cost() <= mostCost {
		return more, 0
	}
	return w, wrongFull
}

// calls are some whose words are of each kind.
func calls() []api.Data {
	l := []api.Data{{}, words(slices.Repeat([]uint32{math.MaxUint32}, 16)...), {Nr: 2, Arch: arch, Args: [6]uint64{0, 2}}}
	for at := range 16 {
		all := slices.Repeat([]uint32{allowed}, 16)
		all[at] = refused + uint32(at)
		l = append(l, words(all...))
	}
	c := chance(3)
	for range 12 {
		l = append(l, c.call())
	}
	return l
}

// chance is a row of numbers that look scattered, and are the same at each run of the tests.
type chance uint64

func (c *chance) below(n int) int {
	*c = *c*6364136223846793005 + 1442695040888963407
	return int(uint64(*c>>33) % uint64(n))
}

func (c *chance) answer(least int) uint32 {
	all := answers()
	for {
		if v := all[c.below(len(all))]; forbids(v) >= least {
			return v
		}
	}
}

// call is one none of whose words forbids more than some kind: else nearly all would forbid most.
func (c *chance) call() api.Data {
	least := 1 + c.below(8)
	var l [16]uint32
	for i := range l {
		l[i] = c.answer(least)
	}
	return words(l[:]...)
}

// filter is a program that may be run, and that answers one thing, a word of the call, or one of two things by a word.
func (c *chance) filter() []api.Ins {
	least := 1 + c.below(8)
	switch c.below(4) {
	case 0:
		return ret(c.answer(least))
	case 1:
		return word(c.below(16))
	case 2:
		return []api.Ins{ins(api.LdImm, 1), ins(api.Div|api.ByX, 0), ins(api.RetA, 0)} // it answers 0
	}
	ask := []api.Ins{ins(api.LdAbs, uint32(4*c.below(16))), {Code: api.Jgt, K: c.answer(1), Jt: 0, Jf: 1}}
	return slices.Concat(ask, ret(c.answer(least)), ret(c.answer(least)))
}

// attach fails if a stack does not take a filter, and so is one more.
func attach(t *testing.T, s *Stack, l []api.Ins) {
	t.Helper()
	size, cost := s.Len(), s.Cost()
	if wrong := s.Attach(l); wrong != 0 {
		t.Fatalf("a filter of %d upon %d that cost %d: %v", len(l), size, cost, wrong)
	}
	if s.Len() != size+1 || s.Cost() != cost+len(l)+4 {
		t.Fatalf("a filter of %d upon %d that cost %d: now %d that cost %d", len(l), size, cost, s.Len(), s.Cost())
	}
}

// of is a stack of these filters, the first one the oldest.
func of(t *testing.T, filters ...[]api.Ins) *Stack {
	t.Helper()
	s := &Stack{}
	for _, l := range filters {
		attach(t, s, l)
	}
	return s
}

// tells fails if a stack does not tell this answer and this filter of a call.
func tells(t *testing.T, s *Stack, d api.Data, want uint32, at int) {
	t.Helper()
	if v, n := s.Run(d); v != want || n != at {
		t.Fatalf("%d filters, of %x: %#x, %d: not %#x, %d", s.Len(), d, v, n, want, at)
	}
}

// stands fails if a stack is not as its filters are.
func stands(t *testing.T, s *Stack, w tower, calls ...api.Data) {
	t.Helper()
	if s.Len() != len(w) || s.Cost() != w.cost() {
		t.Fatalf("%d filters that cost %d, not %d that cost %d", s.Len(), s.Cost(), len(w), w.cost())
	}
	for _, d := range calls {
		v, at := w.run(d)
		tells(t, s, d, v, at)
	}
}

// refuses fails if a stack does not refuse a filter with this error, or is another one then.
func refuses(t *testing.T, s *Stack, w tower, l []api.Ins, want api.Errno) {
	t.Helper()
	if wrong := s.Attach(l); wrong != want {
		t.Fatalf("a filter of %d upon %d that cost %d: %v, not %v", len(l), s.Len(), s.Cost(), wrong, want)
	}
	stands(t, s, w, calls()...)
}

// compiled are the rules of a text, and their program.
func compiled(t *testing.T, text string) (api.Rules, []api.Ins) {
	t.Helper()
	x, wrong, at := parse.Parse(text)
	l, wrong2 := compile.Compile(x)
	if wrong != 0 || wrong2 != 0 {
		t.Fatalf("%q: %v at %d, %v", text, wrong, at, wrong2)
	}
	return x, l
}

// The limits and the errors are api's.
func TestNumbersAreNamed(t *testing.T) {
	if api.MaxHeap != mostFilters || api.MaxCost != mostCost || api.MaxIns != mostIns || api.Arch != arch {
		t.Error("limits:", api.MaxHeap, api.MaxCost, api.MaxIns, api.Arch)
	}
	named := []api.Errno{api.OK, api.ErrLong, api.ErrEmpty, api.ErrCode, api.ErrLoad, api.ErrZero, api.ErrJump, api.ErrEnd, api.ErrFull}
	if !slices.Equal(named, []api.Errno{0, wrongLong, wrongEmpty, wrongCode, wrongLoad, wrongZero, wrongJump, wrongEnd, wrongFull}) {
		t.Error("errors:", named)
	}
}

// P15.1, P15.2: the chapter's examples.
func TestExamples(t *testing.T) {
	s := &Stack{}
	tells(t, s, api.Data{}, allowed, -1)
	attach(t, s, ret(allowed))
	tells(t, s, api.Data{}, allowed, 0)
	attach(t, s, ret(refused+1))
	tells(t, s, api.Data{}, refused+1, 1)
	attach(t, s, ret(refused+2))
	tells(t, s, api.Data{}, refused+2, 2)
}

// P1, P15.2: the examples of the whole that speak of filters upon one another.
func TestExamplesOfTheWhole(t *testing.T) {
	_, first := compiled(t, "default kill; allow read, write; errno 13 open when arg1 & 3 != 0;")
	_, second := compiled(t, "default allow; log read;")
	read, write := api.Data{Nr: 0, Arch: arch}, api.Data{Nr: 1, Arch: arch}
	open2, open4 := api.Data{Nr: 2, Arch: arch, Args: [6]uint64{0, 2}}, api.Data{Nr: 2, Arch: arch, Args: [6]uint64{0, 4}}
	s := of(t, first)
	tells(t, s, read, allowed, 0)
	tells(t, s, open2, 0x0005000d, 0)
	tells(t, s, open4, killed, 0)
	attach(t, s, second)
	tells(t, s, read, logged, 1)
	tells(t, s, write, allowed, 1)
	tells(t, s, open2, 0x0005000d, 0)
	tells(t, s, open4, killed, 0)
	for _, d := range []api.Data{read, write, open2, open4} {
		d.Arch++
		tells(t, s, d, killed, 1)
	}
}

// P15.1: a stack is begun as its zero value, without a filter.
func TestNoFilter(t *testing.T) {
	var s Stack
	stands(t, &s, nil, calls()...)
	stands(t, new(Stack), nil)
	stands(t, s.Fork(), nil, calls()...)
	for _, d := range calls() {
		tells(t, &s, d, 0x7fff0000, -1)
	}
	attach(t, &s, ret(killed))
	tells(t, &s, api.Data{}, killed, 0)
}

// P15.1: how many there are, and what they cost, filter by filter; the 33rd one is refused.
func TestNumberOfFilters(t *testing.T) {
	s := &Stack{}
	var w tower
	for n := range mostFilters {
		l := append(long(n, traced), word(n%16)...)
		attach(t, s, l)
		w = append(w, l)
		stands(t, s, w, calls()...)
		if n+1 == 1 || n+1 == 2 || n+1 == 31 || n+1 == 32 {
			if s.Len() != n+1 || s.Cost() != (n+1)*(n+2)/2+5*(n+1) {
				t.Errorf("%d filters: %d that cost %d", n+1, s.Len(), s.Cost())
			}
		}
	}
	for _, l := range [][]api.Ins{ret(killed), ret(allowed), word(0), long(mostIns, thread)} {
		refuses(t, s, w, l, wrongFull)
	}
}

// P15.1: filters that may not be run, upon stacks of each size, full ones too: what the check says comes first.
func TestFaultyFilters(t *testing.T) {
	told := map[api.Errno]int{}
	bySize := of(t, slices.Repeat([][]api.Ins{ret(allowed)}, mostFilters)...)
	byCost := of(t, slices.Repeat([][]api.Ins{ofCost(4096, logged)}, 8)...)
	both := of(t, slices.Repeat([][]api.Ins{ofCost(1024, traced)}, 32)...)
	for _, f := range faults() {
		told[f.want]++
		refuses(t, &Stack{}, nil, f.l, f.want)
		refuses(t, of(t, word(4), word(5)), tower{word(4), word(5)}, f.l, f.want)
		for _, s := range []*Stack{bySize, byCost, both} {
			size, cost := s.Len(), s.Cost()
			if wrong := s.Attach(f.l); wrong != f.want || s.Len() != size || s.Cost() != cost {
				t.Errorf("%v upon a full stack of %d: %v", f.want, size, wrong)
			}
		}
	}
	for _, e := range []api.Errno{wrongLong, wrongEmpty, wrongCode, wrongLoad, wrongZero, wrongJump, wrongEnd} {
		if told[e] == 0 {
			t.Error("not asked:", e)
		}
	}
	tells(t, bySize, api.Data{}, allowed, 31)
	tells(t, byCost, api.Data{}, logged, 7)
	tells(t, both, api.Data{}, traced, 31)
}

// P15.1: a filter that was refused leaves nothing behind: the next one takes its number.
func TestRefusedFilterIsNotCounted(t *testing.T) {
	s := of(t, ret(allowed))
	for n, f := range faults() {
		if wrong := s.Attach(f.l); wrong != f.want {
			t.Errorf("%v, not %v", wrong, f.want)
		}
		if n < 31 {
			attach(t, s, ret(refused+uint32(n)))
			tells(t, s, api.Data{}, refused+uint32(n), n+1)
		}
	}
	s = of(t, slices.Repeat([][]api.Ins{long(mostIns, allowed)}, 7)...)
	for range 3 {
		refuses(t, s, slices.Repeat(tower{long(mostIns, allowed)}, 7), long(4065, killed), wrongFull)
	}
	attach(t, s, ret(logged))
	tells(t, s, api.Data{}, logged, 7)
}

// P15.1: costs that come together to just as much as there may be, to one less, and to one more.
func TestCostAtItsEdge(t *testing.T) {
	for _, below := range []tower{
		slices.Repeat(tower{ofCost(4096, allowed)}, 7),
		slices.Repeat(tower{long(mostIns, allowed)}, 7),
		slices.Repeat(tower{ofCost(1024, allowed)}, 31),
		slices.Repeat(tower{ofCost(1057, allowed)}, 30),
		append(slices.Repeat(tower{long(mostIns, allowed)}, 7), ret(allowed), ret(allowed), word(3)),
		append(slices.Repeat(tower{ofCost(4096, allowed)}, 7), long(4000, allowed)),
	} {
		left := mostCost - below.cost()
		for _, cost := range []int{left - 1, left, left + 1} {
			s := of(t, below...)
			if cost > left {
				refuses(t, s, below, ofCost(cost, killed), wrongFull)
				refuses(t, s, below, ofCost(mostIns+4, killed), wrongFull)
			} else {
				attach(t, s, ofCost(cost, killed))
				tells(t, s, api.Data{}, killed, len(below))
			}
			if cost <= left && s.Cost() != mostCost+cost-left {
				t.Errorf("%d filters cost %d", s.Len(), s.Cost())
			}
		}
	}
}

// P15.1: of a stack that costs all but a little, or all, even the shortest filter is refused, and one that fits is not.
func TestWhatIsLeft(t *testing.T) {
	for left := range 12 {
		below := append(slices.Repeat(tower{ofCost(4096, traced)}, 7), ofCost(4096-left, logged))
		s := of(t, below...)
		for cost := 5; cost <= 12; cost++ {
			f := s.Fork()
			if cost <= left {
				attach(t, f, ofCost(cost, killed))
				tells(t, f, api.Data{}, killed, 8)
			} else if wrong := f.Attach(ofCost(cost, killed)); wrong != wrongFull {
				t.Errorf("%d where %d are left: %v", cost, left, wrong)
			} else {
				stands(t, f, below, api.Data{})
			}
		}
		stands(t, s, below, calls()[:3]...)
	}
}

// P15.1: the number is full where the cost is not, the cost where the number is not, and both at once.
func TestWhichIsFull(t *testing.T) {
	short := slices.Repeat(tower{ret(allowed)}, mostFilters)
	refuses(t, of(t, short...), short, ret(killed), wrongFull)
	wide := slices.Repeat(tower{ofCost(4096, allowed)}, 8)
	refuses(t, of(t, wide...), wide, ret(killed), wrongFull)
	even := slices.Repeat(tower{ofCost(1024, allowed)}, mostFilters)
	refuses(t, of(t, even...), even, ret(killed), wrongFull)
	mixed := append(slices.Repeat(tower{long(mostIns, allowed)}, 7), slices.Repeat(tower{ret(allowed)}, 24)...)
	s := of(t, mixed...)
	attach(t, s, ofCost(mostCost-mixed.cost(), logged))
	if s.Len() != mostFilters || s.Cost() != mostCost {
		t.Error(s.Len(), s.Cost())
	}
	refuses(t, s, append(mixed, ofCost(mostCost-mixed.cost(), logged)), ret(killed), wrongFull)
}

// P15.2: one filter's answer is told as it is.
func TestOneFilter(t *testing.T) {
	s := of(t, word(6))
	for _, v := range answers() {
		tells(t, of(t, ret(v)), api.Data{}, v, 0)
		tells(t, s, words(1, 2, 3, 4, 5, 6, v, 8), v, 0)
	}
}

// P15.2: all pairs and all triples of answers, in every order; the newest of those that forbid most is told.
func TestAnswersInEveryOrder(t *testing.T) {
	two, three := of(t, word(4), word(9)), of(t, word(4), word(15), word(0))
	for _, a := range answers() {
		for _, b := range answers() {
			want, at := b, 1
			if forbids(a) < forbids(b) {
				want, at = a, 0
			}
			tells(t, two, words(9, 9, 9, 9, a, 9, 9, 9, 9, b), want, at)
			tells(t, of(t, ret(a), ret(b)), api.Data{}, want, at)
		}
	}
	for _, a := range few() {
		for _, b := range few() {
			for _, c := range few() {
				want, at := tower{ret(a), ret(b), ret(c)}.run(api.Data{})
				d := words(c, 9, 9, 9, a, 9, 9, 9, 9, 9, 9, 9, 9, 9, 9, b)
				tells(t, three, d, want, at)
			}
		}
	}
}

// P15.2: the same answer from several filters, and ones that differ in their numbers alone, among ones that forbid less.
func TestNewestOfThoseThatForbidMost(t *testing.T) {
	for kind, number := range rising {
		less := rising[min(kind+1, 7)]
		tells(t, of(t, ret(number), ret(number)), api.Data{}, number, 1)
		tells(t, of(t, ret(number), ret(number), ret(less)), api.Data{}, number, 2-min(1, 7-kind))
		tells(t, of(t, ret(number+1), ret(number+2)), api.Data{}, number+2, 1)
		tells(t, of(t, ret(number+2), ret(number+1)), api.Data{}, number+1, 1)
		tells(t, of(t, ret(number+1), ret(number), ret(number+1)), api.Data{}, number+1, 2)
		if kind < 7 {
			tells(t, of(t, ret(number+1), ret(less), ret(number+2), ret(number+2), ret(less+3), ret(less)), api.Data{}, number+2, 3)
			tells(t, of(t, ret(less), ret(number+9), ret(less)), api.Data{}, number+9, 1)
			tells(t, of(t, ret(number+65535), ret(less), ret(less+1)), api.Data{}, number+65535, 0)
		}
	}
	tells(t, of(t, ret(killed), ret(0x12345678), ret(allowed)), api.Data{}, 0x12345678, 1)
	tells(t, of(t, ret(0x12345678), ret(killed), ret(allowed)), api.Data{}, killed, 1)
	tells(t, of(t, ret(thread), ret(0xffffffff)), api.Data{}, 0xffffffff, 1)
	tells(t, of(t, ret(0xffffffff), ret(thread)), api.Data{}, 0xffffffff, 0)
}

// P15.2: of 32 filters each in turn forbids most, alone and with another one.
func TestEachFilterInTurn(t *testing.T) {
	for at := range mostFilters {
		var filters tower
		for n := range mostFilters {
			filters = append(filters, ret(allowed+uint32(n)))
		}
		tells(t, of(t, filters...), api.Data{}, allowed+31, 31)
		filters[at] = ret(refused + uint32(at))
		tells(t, of(t, filters...), api.Data{}, refused+uint32(at), at)
		for other := range mostFilters {
			if other != at {
				filters[other] = ret(refused + uint32(other))
				last := max(at, other)
				tells(t, of(t, filters...), api.Data{}, refused+uint32(last), last)
				filters[other] = ret(allowed + uint32(other))
			}
		}
	}
}

// P15.2: a call is asked of each filter anew, with nothing left of another one, or of another call.
func TestFiltersStandAlone(t *testing.T) {
	fill := []api.Ins{ins(api.LdImm, killed), ins(api.St, 3), ins(api.Tax, 0), ins(api.RetK, allowed)}
	cell := []api.Ins{ins(api.LdMem, 3), {Code: api.Jeq, Jt: 0, Jf: 1}, ins(api.RetK, logged), ins(api.RetK, killed)}
	x := []api.Ins{ins(api.Txa, 0), {Code: api.Jeq, Jt: 0, Jf: 1}, ins(api.RetK, traced), ins(api.RetK, killed)}
	a := []api.Ins{{Code: api.Jeq, Jt: 0, Jf: 1}, ins(api.RetK, asked), ins(api.RetK, killed)}
	tells(t, of(t, fill, cell, fill), api.Data{}, logged, 1)
	tells(t, of(t, fill, x, fill, cell, fill), api.Data{}, traced, 1)
	s := of(t, fill, x, fill, a, fill)
	for range 3 {
		tells(t, s, words(killed, killed), asked, 3)
		tells(t, s, api.Data{}, asked, 3)
	}
}

// P15.2: what is told of a call does not change by other calls, nor by being told, nor does the stack.
func TestRunChangesNothing(t *testing.T) {
	w := tower{word(0), word(1), ret(allowed), word(4), word(15), ret(logged + 3), word(7)}
	s := of(t, w...)
	for range 3 {
		stands(t, s, w, calls()...)
		back := calls()
		slices.Reverse(back)
		stands(t, s, w, back...)
	}
}

// P15.3: a fork has the same filters, of any number.
func TestForkHasTheSameFilters(t *testing.T) {
	c := chance(11)
	var w tower
	s := &Stack{}
	for range mostFilters {
		stands(t, s.Fork(), w, calls()...)
		l := c.filter()
		attach(t, s, l)
		w = append(w, l)
		stands(t, s.Fork(), w, calls()...)
		stands(t, s, w, calls()...)
	}
	refuses(t, s.Fork(), w, ret(allowed), wrongFull)
	wide := slices.Repeat(tower{ofCost(4096, allowed)}, 8)
	refuses(t, of(t, wide...).Fork(), wide, ret(killed), wrongFull)
}

// P15.3: what is attached to one of the two is not in the other, whichever is the first, at each number of filters.
func TestForkGoesItsOwnWay(t *testing.T) {
	for n := range mostFilters {
		below := slices.Repeat(tower{ret(allowed)}, n)
		mine, its := append(slices.Clone(below), ret(refused+1)), append(slices.Clone(below), ret(trapped+2))
		s := of(t, below...)
		f := s.Fork()
		attach(t, s, ret(refused+1))
		stands(t, f, below, calls()...)
		attach(t, f, ret(trapped+2))
		stands(t, s, mine, calls()...)
		stands(t, f, its, calls()...)
		s = of(t, below...)
		f = s.Fork()
		attach(t, f, ret(trapped+2))
		stands(t, s, below, calls()...)
		attach(t, s, ret(refused+1))
		stands(t, s, mine, calls()...)
		stands(t, f, its, calls()...)
	}
}

// P15.3: the one may be filled where the other has room.
func TestForkIsFullAlone(t *testing.T) {
	s := of(t, word(4))
	f, g := s.Fork(), s.Fork()
	for range 31 {
		attach(t, f, ret(logged))
	}
	for range 7 {
		attach(t, g, long(mostIns, traced))
	}
	attach(t, g, ofCost(mostCost-g.Cost(), traced))
	if f.Attach(ret(allowed)) != wrongFull || g.Attach(ret(allowed)) != wrongFull {
		t.Error("not full")
	}
	stands(t, s, tower{word(4)}, calls()...)
	attach(t, s, ret(asked))
	stands(t, s, tower{word(4), ret(asked)}, calls()...)
	stands(t, f, append(tower{word(4)}, slices.Repeat(tower{ret(logged)}, 31)...), calls()...)
}

// P15.3: the two have no memory in common, whatever would be written there.
func TestForkIsACopy(t *testing.T) {
	w := tower{word(4), ret(refused), long(9, logged), word(0)}
	s := of(t, w...)
	f := s.Fork()
	g := f.Fork()
	clear(f.code[:cap(f.code)])
	clear(f.ends[:cap(f.ends)])
	stands(t, s, w, calls()...)
	stands(t, g, w, calls()...)
}

// P15.3: forks of forks, in any order, and what was refused by one of them.
func TestForksOfForks(t *testing.T) {
	s := of(t, ret(allowed))
	all, ways := []*Stack{s}, []tower{{ret(allowed)}}
	for n := range uint32(5) {
		for at := range all {
			f := all[at].Fork()
			its, mine := ret(refused+n), ret(trapped+n)
			all, ways = append(all, f), append(ways, append(slices.Clone(ways[at]), its))
			attach(t, f, its)
			if n%2 == 0 {
				attach(t, all[at], mine)
				ways[at] = append(slices.Clone(ways[at]), mine)
			}
			refuses(t, f, ways[len(ways)-1], nil, wrongEmpty)
		}
		for at := range all {
			stands(t, all[at], ways[at], calls()...)
		}
	}
	if len(all) != 32 {
		t.Error(len(all))
	}
}

// P15.3: a fork of a fork that is left alone stays as it is, whatever becomes of those that it came from.
func TestForkStays(t *testing.T) {
	s := of(t, word(4), word(5))
	f := s.Fork()
	g := f.Fork()
	for n := range uint32(30) {
		attach(t, s, ret(trapped+n))
		attach(t, f, ret(refused+n))
		stands(t, g, tower{word(4), word(5)}, calls()...)
	}
	attach(t, g, ret(asked))
	tells(t, s, words(0, 0, 0, 0, allowed, allowed), trapped+29, 31)
	tells(t, f, words(0, 0, 0, 0, allowed, allowed), refused+29, 31)
	tells(t, g, words(0, 0, 0, 0, allowed, allowed), asked, 2)
}

// P15.4: a filter more makes no answer forbid less, and all forbid at least as much as one of them.
func TestTheorem(t *testing.T) {
	c := chance(17)
	for range 60 {
		s := &Stack{}
		var filters tower
		for range 1 + c.below(mostFilters) {
			l := c.filter()
			before := s.Fork()
			attach(t, s, l)
			filters = append(filters, l)
			for _, d := range calls() {
				less, _ := before.Run(d)
				more, at := s.Run(d)
				own, _, _ := vm.Run(filters[at], d)
				if forbids(more) > forbids(less) || own != more {
					t.Fatalf("%d filters of %x: %#x, then %#x", s.Len(), d, less, more)
				}
			}
		}
		for _, d := range calls() {
			all, _ := s.Run(d)
			for _, l := range filters {
				if one, _, _ := vm.Run(l, d); forbids(all) > forbids(one) {
					t.Fatalf("%d filters of %x: %#x, but one of them %#x", s.Len(), d, all, one)
				}
			}
		}
	}
}

// P15.4: whichever filter is laid upon whichever, what forbids most stays.
func TestTheoremOfPairs(t *testing.T) {
	for _, a := range answers() {
		for _, b := range answers() {
			v, _ := of(t, ret(a), ret(b)).Run(api.Data{})
			if forbids(v) > forbids(a) || forbids(v) > forbids(b) || v != a && v != b {
				t.Errorf("%#x, then %#x: %#x", a, b, v)
			}
		}
	}
}

// P1: of rules that are compiled all filters together answer what forbids most of what the rules mean.
func TestVerdict(t *testing.T) {
	texts := []string{
		"default allow;",
		"default kill; allow read, write; errno 13 open when arg1 & 3 != 0;",
		"default allow; log read;",
		"default log; notify open, openat; trap 7 kill when arg0 > 4294967296 and arg1 <= 9;",
		"default allow; errno 1 open when arg0 & 0xff00000000 == 0x100000000; errno 2 open, read, write;",
		"default trace 5; allow read, write, open, openat, kill when arg1 < 3; thread seccomp;",
		"default notify; allow read; allow open when arg1 == 2; errno 65535 write when arg0 != 0;",
	}
	s := &Stack{}
	var all []api.Rules
	for n, text := range append(texts, texts...) {
		x, l := compiled(t, text)
		attach(t, s, l)
		all = append(all, x)
		if s.Len() != n+1 {
			t.Fatal(s.Len())
		}
		for _, nr := range []uint32{0, 1, 2, 3, 62, 257, 317, 999} {
			for _, arg := range []uint64{0, 1, 2, 3, 9, 10, 1 << 32, 1<<32 + 1, 0x1f00000000, math.MaxUint64} {
				for _, byArch := range []uint32{arch, 0, arch + 1} {
					d := api.Data{Nr: nr, Arch: byArch, Args: [6]uint64{arg, arg % 11}}
					verdict(t, s, all, d)
				}
			}
		}
	}
}

// verdict fails if a stack does not answer what the newest of its rules that forbid most of a call mean.
func verdict(t *testing.T, s *Stack, all []api.Rules, d api.Data) {
	t.Helper()
	want, at := api.Act{Kind: api.Allow}, -1
	for n, x := range all {
		if a, wrong := mean.Decide(x, d); wrong != 0 {
			t.Fatal(wrong)
		} else if at < 0 || a.Kind <= want.Kind {
			want, at = a, n
		}
	}
	tells(t, s, d, rising[want.Kind-1]+uint32(want.Arg), at)
}

// R3: what is done afterwards with a slice that was handed in changes nothing, and what lies behind it stays.
func TestNothingIsShared(t *testing.T) {
	array := long(40, killed)
	l := array[3:5]
	copy(l, word(4))
	kept := slices.Clone(array)
	s := of(t, l)
	f := s.Fork()
	attach(t, s, l)
	attach(t, s, array[20:21])
	attach(t, f, l[:2:2])
	s.Run(api.Data{})
	if !slices.Equal(array, kept) {
		t.Fatal("what was handed in is another")
	}
	mine, its := tower{word(4), word(4), ret(killed)}, tower{word(4), word(4)}
	stands(t, s, mine, calls()...)
	clear(array)
	l[0], l[1] = ins(0xffff, 1), ins(api.Ja, 9)
	_ = append(l, ret(7)...)
	array[20] = ins(api.RetK, allowed)
	stands(t, s, mine, calls()...)
	stands(t, f, its, calls()...)
	attach(t, f, ret(allowed))
	stands(t, s, mine, calls()...)
	stands(t, f, append(its, ret(allowed)), calls()...)
}

// R3: one slice, written anew for each filter.
func TestOneSliceForAllFilters(t *testing.T) {
	l := make([]api.Ins, 1, 64)
	s := &Stack{}
	var w tower
	most := answers()
	slices.Reverse(most) // from those of Allow on, so that the newest one forbids most
	for _, v := range most[:mostFilters] {
		l[0] = ins(api.RetK, v)
		attach(t, s, l)
		w = append(w, slices.Clone(l))
		l[0] = ins(0, 0)
		stands(t, s, w, calls()...)
		for _, i := range l[1:cap(l)] {
			if i != (api.Ins{}) {
				t.Fatal("what lies behind the slice was written")
			}
		}
	}
}

// R3: a slice that a filter refused was handed in with stays too.
func TestRefusedSliceStays(t *testing.T) {
	for _, s := range []*Stack{{}, of(t, word(1)), of(t, slices.Repeat(tower{ret(0)}, 32)...)} {
		for _, f := range faults() {
			array := append(slices.Clone(f.l), long(9, 77)...)
			kept := slices.Clone(array)
			if wrong := s.Attach(array[:len(f.l)]); wrong != f.want || !slices.Equal(array, kept) {
				t.Fatalf("%v, not %v, or the array is another", wrong, f.want)
			}
		}
	}
}

// The way: a filter that is handed on has no room into which the next one could be overwritten.
func TestHandedOnCannotGrow(t *testing.T) {
	w := tower{word(4), ret(refused), long(9, logged), word(0)}
	s := of(t, w...)
	for at := range w {
		l := s.filter(at)
		if !slices.Equal(l, w[at]) || cap(l) != len(l) {
			t.Errorf("the filter %d: %v with room for %d", at, l, cap(l))
		}
		_ = append(l, long(20, killed)...)
	}
	stands(t, s, w, calls()...)
}

// A stack that was copied as a value goes its own way, too.
func TestCopiedValue(t *testing.T) {
	for n := range mostFilters - 1 {
		below := slices.Repeat(tower{ret(allowed)}, n)
		s := of(t, below...)
		other := *s
		attach(t, s, ret(killed))
		attach(t, &other, long(3, logged)) // of another length, so that it ends elsewhere
		attach(t, s, ret(asked))
		stands(t, s, append(slices.Clone(below), ret(killed), ret(asked)), calls()...)
		stands(t, &other, append(slices.Clone(below), long(3, logged)), calls()...)
	}
}

// P15.1 to P15.3: scattered filters, short and long ones, ones that may not be run, and forks, by the document's words.
func TestScattered(t *testing.T) {
	told := map[api.Errno]int{}
	wrongs := faults()
	for seed := range 12 {
		c := chance(seed)
		all, ways := []*Stack{{}}, []tower{nil}
		for range 200 {
			at := c.below(len(all))
			if c.below(12) == 0 && len(all) < 6 {
				all, ways = append(all, all[at].Fork()), append(ways, ways[at])
				continue
			}
			l := c.any(seed, wrongs)
			array := append(slices.Clone(l), long(3, killed)...)
			wrong := all[at].Attach(array[:len(l)])
			var want api.Errno
			ways[at], want = ways[at].attach(l)
			told[want]++
			if wrong != want {
				t.Fatalf("a filter of %d upon %d that cost %d: %v, not %v", len(l), len(ways[at]), ways[at].cost(), wrong, want)
			}
			clear(array)
			stands(t, all[at], ways[at], c.call())
		}
		for at := range all {
			stands(t, all[at], ways[at], calls()[:5]...)
		}
	}
	for _, e := range []api.Errno{0, wrongFull, wrongEmpty, wrongLong, wrongCode, wrongLoad, wrongZero, wrongJump, wrongEnd} {
		if told[e] < 5 {
			t.Error(e, "is told only", told[e], "times")
		}
	}
}

// any is a filter that may be run, of a length that hangs on the seed, or one that may not.
func (c *chance) any(seed int, wrongs []faulty) []api.Ins {
	if c.below(5) == 0 {
		return wrongs[c.below(len(wrongs))].l
	}
	l := c.filter()
	lengths := []int{1, 64, 1100, 2 * mostIns}
	ahead := c.below(lengths[seed%len(lengths)])
	return append(slices.Repeat([]api.Ins{ins(api.LdImm, 1)}, min(ahead, mostIns-len(l))), l...)
}

// P0: calls of all kinds end.
func TestAllCallsEnd(t *testing.T) {
	s := of(t, word(0), word(15), ret(1))
	for _, v := range []uint64{0, 1, math.MaxUint32, 1 << 63, math.MaxUint64} {
		d := api.Data{Nr: uint32(v), Arch: uint32(v), Ip: v, Args: [6]uint64{v, v, v, v, v, v}}
		w := tower{word(0), word(15), ret(1)}
		stands(t, s, w, d)
		stands(t, s.Fork(), w, d)
	}
	if text := fmt.Sprint(s.Attach(nil)); text != "fairlead: error 10" {
		t.Error(text)
	}
}
