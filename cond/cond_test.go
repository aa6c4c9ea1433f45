package cond

import (
	"math"
	"math/big"
	"slices"
	"testing"

	"fairlead/api"
)

const (
	eq = 1
	ne = 2
	lt = 3
	le = 4
	gt = 5
	ge = 6
)

const (
	all     = math.MaxUint64
	highest = 1 << 63
)

var ops = []int{eq, ne, lt, le, gt, ge}

// wrongOps and wrongArgs are those that may not be: at the edges, and far off, with such among them as have a right one's
// lowest bits.
var (
	wrongOps  = []int{0, 7, -1, -2, -6, 8, 9, 16, 256 + 1, 65536 + 6, 1<<32 + 3, math.MaxInt32, math.MinInt32, math.MaxInt, math.MinInt, math.MinInt + 1, math.MinInt + 6}
	wrongArgs = []int{6, -1, -2, -5, -6, 7, 8, 64, 256, 256 + 5, 65536, 1 << 32, 1<<32 + 5, math.MaxInt32, math.MinInt32, math.MaxInt, math.MinInt, math.MinInt + 5}
)

// masks are none, of one bit, of bits side by side and apart, of each half, and of all.
func masks() []uint64 {
	l := []uint64{0, 3, 5, 6, 7, 10, 0xff, 0xf0, 0xffffffff, 0xffffffff00000000, 0xff00000000, 0x8000000000000001,
		0x5555555555555555, 0xaaaaaaaaaaaaaaaa, math.MaxInt64, all - 1, all}
	for bit := range 64 {
		l = append(l, 1<<bit)
	}
	return l
}

// vals are those about a mask: none, itself, one less and one more than it, some of its bits, bits that it has not, and
// the greatest. About the ends of numbers one less and one more wrap round, which makes a Val as good as any.
func vals(mask uint64) []uint64 {
	return []uint64{0, 1, 2, 5, mask, mask - 1, mask + 1, mask >> 1, mask << 1, mask & -mask, mask &^ (mask & -mask), ^mask,
		mask ^ highest, 0xffffffff, 1 << 32, 1<<32 + 1, highest - 1, highest, highest + 1, all - 1, all}
}

// numbersOf are such as lie about a condition's edges: the Val, alone and with bits beside the mask's, one less and one more.
func numbersOf(mask, val uint64) []uint64 {
	return []uint64{0, 1, 6, 13, val, val - 1, val + 1, val ^ highest, val | ^mask, (val - 1) | ^mask, (val + 1) | ^mask,
		mask, ^mask, mask - 1, mask + 1, mask >> 1, val << 32, val >> 32, highest - 1, highest, highest + 1, all - 1, all}
}

// someConds are conditions that may be, of every Op, with every mask and every Val about it.
func someConds(arg int) []api.Cond {
	var l []api.Cond
	for _, mask := range masks() {
		for _, val := range vals(mask) {
			for _, op := range ops {
				l = append(l, api.Cond{Arg: arg, Op: op, Mask: mask, Val: val})
			}
		}
	}
	return l
}

// wrongConds are such as may not be: by their Op, their Arg, or both.
func wrongConds() []api.Cond {
	l := []api.Cond{{}, {Mask: all}, {Mask: 7, Val: 5}}
	for _, mask := range []uint64{0, 1, 7, highest, all} {
		for _, val := range []uint64{0, 5, mask, all} {
			for _, op := range wrongOps {
				for arg := range 6 {
					l = append(l, api.Cond{Arg: arg, Op: op, Mask: mask, Val: val})
				}
				l = append(l, api.Cond{Arg: 6, Op: op, Mask: mask, Val: val}, api.Cond{Arg: -1, Op: op, Mask: mask, Val: val})
			}
			for _, arg := range wrongArgs {
				for _, op := range ops {
					l = append(l, api.Cond{Arg: arg, Op: op, Mask: mask, Val: val})
				}
			}
		}
	}
	return l
}

// with is a call that has a number as one argument, and others as the rest.
func with(arg int, n, rest uint64) api.Data {
	d := api.Data{Nr: uint32(rest), Arch: api.Arch, Ip: rest}
	for i := range d.Args {
		d.Args[i] = rest
	}
	d.Args[arg] = n
	return d
}

// order is how an argument's value stands to a number, reckoned bit by bit in numbers without bound: -1, 0 or 1.
func order(arg, mask, val uint64) int {
	value, weight := new(big.Int), big.NewInt(1)
	for bit := range 64 {
		if arg>>bit%2 == 1 && mask>>bit%2 == 1 {
			value.Add(value, weight)
		}
		weight = new(big.Int).Add(weight, weight)
	}
	return value.Cmp(new(big.Int).SetUint64(val))
}

// slowHolds follows the words of when a condition that may be holds of a number.
func slowHolds(op int, arg, mask, val uint64) bool {
	orders := map[int][]int{eq: {0}, ne: {-1, 1}, lt: {-1}, le: {-1, 0}, gt: {1}, ge: {0, 1}}
	return slices.Contains(orders[op], order(arg, mask, val))
}

// slowNorm follows the words of P8.2, line by line.
func slowNorm(c api.Cond) api.Norm {
	never, always := api.Norm{Never: true}, api.Norm{Always: true}
	if c.Arg < 0 || c.Arg > 5 || !slices.Contains(ops, c.Op) {
		return never
	}
	foreign := c.Val|c.Mask != c.Mask
	lines := []struct {
		op   int
		so   bool
		form api.Norm
	}{
		{eq, foreign, never},
		{ne, foreign, always},
		{lt, c.Val == 0, never},
		{ge, c.Val == 0, always},
		{le, !(c.Mask > c.Val), always},
		{gt, !(c.Mask > c.Val), never},
		{lt, c.Mask < c.Val, always},
		{ge, c.Mask < c.Val, never},
		{eq, true, api.Norm{Op: eq, Mask: c.Mask, Val: c.Val}},
		{ne, true, api.Norm{Op: eq, Mask: c.Mask, Val: c.Val, Not: true}},
		{ge, true, api.Norm{Op: ge, Mask: c.Mask, Val: c.Val}},
		{lt, true, api.Norm{Op: ge, Mask: c.Mask, Val: c.Val, Not: true}},
		{gt, true, api.Norm{Op: gt, Mask: c.Mask, Val: c.Val}},
		{le, true, api.Norm{Op: gt, Mask: c.Mask, Val: c.Val, Not: true}},
	}
	for _, l := range lines {
		if l.op == c.Op && l.so {
			return l.form
		}
	}
	return api.Norm{}
}

// slowIs follows the words of P8.3.
func slowIs(n api.Norm, v uint64) bool {
	switch {
	case n.Always:
		return true
	case n.Never:
		return false
	case n.Op == eq || n.Op == gt || n.Op == ge:
		return slowHolds(n.Op, v, n.Mask, n.Val) != n.Not
	}
	return n.Not
}

// chance is a row of numbers that look scattered, and are the same at each run of the tests.
type chance uint64

func (c *chance) next() uint64 {
	*c += 0x9e3779b97f4a7c15
	z := uint64(*c)
	z = (z ^ z>>30) * 0xbf58476d1ce4e5b9
	z = (z ^ z>>27) * 0x94d049bb133111eb
	return z ^ z>>31
}

// scattered are conditions that may be, and a number for each: masks thick and thin, with Vals in and out of them.
func (c *chance) scattered() (api.Cond, uint64) {
	mask := c.next() >> (c.next() % 64)
	if c.next()%2 == 0 {
		mask &= c.next()
	}
	val := c.next() >> (c.next() % 64)
	if c.next()%4 != 0 {
		val &= mask
	}
	v := c.next()
	if c.next()%2 == 0 {
		v = val + c.next()%3 - 1 | c.next()&^mask
	}
	return api.Cond{Arg: int(c.next() % 6), Op: int(1 + c.next()%6), Mask: mask, Val: val}, v
}

// The Ops are api's.
func TestOpsAreNamed(t *testing.T) {
	named := []int{api.Eq, api.Ne, api.Lt, api.Le, api.Gt, api.Ge}
	if !slices.Equal(named, ops) {
		t.Error("the Ops are", named)
	}
}

// P8.1 to P8.2: the chapter's examples, and the conditions of those of the whole.
func TestExamples(t *testing.T) {
	c := api.Cond{Arg: 0, Op: api.Le, Mask: 7, Val: 5}
	if !Holds(c, api.Data{Args: [6]uint64{13}}) {
		t.Error("13 AND 7 is 5, but not Le 5")
	}
	if n := Norm(c); n != (api.Norm{Op: api.Gt, Not: true, Mask: 7, Val: 5}) {
		t.Error("AND 7, Le 5:", n)
	}
	if n := Norm(api.Cond{Op: api.Le, Mask: 7, Val: 7}); n != (api.Norm{Always: true}) {
		t.Error("AND 7, Le 7:", n)
	}
	if n := Norm(api.Cond{Op: api.Eq, Mask: 6, Val: 1}); n != (api.Norm{Never: true}) {
		t.Error("AND 6, Eq 1:", n)
	}
	less := api.Cond{Arg: 2, Op: api.Lt, Mask: 7, Val: 5}
	if x, e := Not(less); x != (api.Cond{Arg: 2, Op: api.Ge, Mask: 7, Val: 5}) || e != api.OK {
		t.Error("Not of Lt:", x, e)
	}
	open := api.Cond{Arg: 1, Op: api.Ne, Mask: 3}
	if !Holds(open, with(1, 2, 0)) || Holds(open, with(1, 4, 3)) {
		t.Error("arg1 & 3 != 0 holds of 2, and not of 4")
	}
	high := api.Cond{Op: api.Eq, Mask: 0xff00000000, Val: 0x100000000}
	if !Holds(high, with(0, 0x1ffffffff, 0)) || !Holds(high, with(0, 0xf00100000000, 0)) || Holds(high, with(0, 0xffffffff, 0)) {
		t.Error("the higher word alone is asked")
	}
}

// P8.1: all Ops and Args about the edges, and far off; a condition may be whatever its Mask and its Val are.
func TestRight(t *testing.T) {
	for op := -20; op <= 20; op++ {
		for arg := -20; arg <= 20; arg++ {
			want := op >= 1 && op <= 6 && arg >= 0 && arg <= 5
			for _, mask := range []uint64{0, 1, 7, highest, all} {
				for _, val := range []uint64{0, 5, highest, all} {
					if c := (api.Cond{Arg: arg, Op: op, Mask: mask, Val: val}); Right(c) != want {
						t.Errorf("Right(%v) = %v", c, !want)
					}
				}
			}
		}
	}
	for _, c := range someConds(5) {
		if !Right(c) {
			t.Errorf("Right(%v) = false", c)
		}
	}
}

// P8.1, P8.2, R1: of a condition that may not be nothing holds, its form is Never, and it has no other one.
func TestConditionsThatMayNotBe(t *testing.T) {
	calls := []api.Data{{}, with(0, 5, 5), with(3, all, 0), with(5, highest, all), with(0, all, all)}
	for _, c := range wrongConds() {
		if Right(c) {
			t.Errorf("Right(%v) = true", c)
		}
		for _, d := range calls {
			if Holds(c, d) {
				t.Errorf("Holds(%v, %v) = true", c, d)
			}
		}
		if n := Norm(c); n != (api.Norm{Never: true}) {
			t.Errorf("Norm(%v) = %v", c, n)
		}
		if x, e := Not(c); x != (api.Cond{}) || e != api.ErrArg {
			t.Errorf("Not(%v) = %v, %d", c, x, e)
		}
	}
}

// P8.1: each Op, with the answers written out: of a value less than Val, of Val itself, and of a greater one.
func TestOps(t *testing.T) {
	samples := []struct {
		op                  int
		less, same, greater bool
	}{
		{eq, false, true, false},
		{ne, true, false, true},
		{lt, true, false, false},
		{le, true, true, false},
		{gt, false, false, true},
		{ge, false, true, true},
	}
	for _, s := range samples {
		for _, val := range []uint64{1, 5, 0xffffffff, 1 << 32, highest - 1, highest, highest + 1, all - 1} {
			c := api.Cond{Op: s.op, Mask: all, Val: val}
			less, same, greater := Holds(c, with(0, val-1, 0)), Holds(c, with(0, val, 0)), Holds(c, with(0, val+1, 0))
			if less != s.less || same != s.same || greater != s.greater {
				t.Errorf("%v: of less %v, of the same %v, of more %v", c, less, same, greater)
			}
		}
	}
}

// P8.1: values have no sign: the highest bit makes one the greater.
func TestValuesWithTheHighestBit(t *testing.T) {
	for _, s := range []struct {
		op       int
		val, arg uint64
		want     bool
	}{
		{gt, 1, highest, true}, {gt, 1, all, true}, {lt, 1, all, false}, {lt, highest, 1, true}, {lt, all, highest, true},
		{ge, highest, highest - 1, false}, {ge, highest, highest, true}, {le, highest, all, false}, {le, all, all, true},
		{gt, 0, highest, true}, {lt, all, 0, true}, {eq, highest, highest, true}, {ne, highest, 0, true},
	} {
		if got := Holds(api.Cond{Op: s.op, Mask: all, Val: s.val}, with(0, s.arg, 0)); got != s.want {
			t.Errorf("%#x by Op %d against %#x: %v", s.arg, s.op, s.val, got)
		}
	}
}

// P8.1: bits beside the mask's do not count, and Val is held against the value whole, those of its bits too that the mask
// has not.
func TestMasks(t *testing.T) {
	for _, s := range []struct {
		op             int
		mask, val, arg uint64
		want           bool
	}{
		{eq, 0, 0, all, true}, {eq, 0, 1, 1, false}, {ne, 0, 0, all, false}, {ne, 0, 1, 1, true},
		{lt, 0, 0, all, false}, {lt, 0, 1, all, true}, {le, 0, 0, all, true}, {gt, 0, 0, all, false}, {ge, 0, 0, 0, true},
		{ge, 0, 1, all, false},
		{eq, 6, 1, 1, false}, {eq, 6, 3, 3, false}, {ne, 6, 3, 3, true}, {lt, 6, 3, 3, true}, {le, 6, 3, 4, false},
		{gt, 6, 3, 7, true}, {ge, 6, 3, 3, false}, {ge, 6, 5, 6, true}, {gt, 6, 5, 5, false},
		{eq, highest, highest, all, true}, {eq, highest, highest, highest - 1, false}, {gt, highest, 5, highest - 1, false},
		{gt, highest, 5, highest, true}, {lt, 7, 8, all, true}, {ge, 7, 8, all, false}, {eq, 0xf0, 0x50, 0xf5f, true},
		{le, 1, all, all, true}, {gt, 1, 0, 3, true}, {gt, 1, 0, 2, false},
	} {
		if got := Holds(api.Cond{Op: s.op, Mask: s.mask, Val: s.val}, with(0, s.arg, 0)); got != s.want {
			t.Errorf("%#x AND %#x by Op %d against %#x: %v", s.arg, s.mask, s.op, s.val, got)
		}
	}
}

// P8.1: each of the six arguments is asked, and none but it.
func TestEachArgument(t *testing.T) {
	for arg := range 6 {
		for _, rest := range []uint64{0, 5, 9, 6, all} {
			for _, n := range []uint64{0, 4, 5, 6, 9, all} {
				for _, op := range ops {
					c, d := api.Cond{Arg: arg, Op: op, Mask: all, Val: 5}, with(arg, n, rest)
					if got := Holds(c, d); got != slowHolds(op, n, all, 5) {
						t.Errorf("Holds(%v, %v) = %v", c, d, got)
					}
				}
			}
		}
	}
	d := api.Data{Args: [6]uint64{10, 11, 12, 13, 14, 15}}
	for arg := range 6 {
		for val := range 6 {
			c := api.Cond{Arg: arg, Op: eq, Mask: all, Val: uint64(10 + val)}
			if Holds(c, d) != (arg == val) {
				t.Errorf("Holds(%v, %v) = %v", c, d, arg != val)
			}
		}
	}
}

// P8.1: a call's number, architecture and place do not count.
func TestTheRestOfACallDoesNotCount(t *testing.T) {
	for _, c := range []api.Cond{{Op: eq, Mask: all, Val: 5}, {Arg: 5, Op: ne, Mask: 7, Val: 5}} {
		d := with(c.Arg, 5, 5)
		want := Holds(c, d)
		for _, other := range []api.Data{{Args: d.Args}, {Nr: math.MaxUint32, Args: d.Args}, {Arch: 1, Ip: all, Args: d.Args}} {
			if Holds(c, other) != want {
				t.Errorf("Holds(%v, %v) = %v", c, other, !want)
			}
		}
	}
}

// P8.1: Not changes the Op alone, to the other one of its pair, and twice it changes nothing.
func TestNot(t *testing.T) {
	pairs := map[int]int{eq: ne, ne: eq, lt: ge, ge: lt, le: gt, gt: le}
	for arg := range 6 {
		for _, c := range someConds(arg) {
			want := c
			want.Op = pairs[c.Op]
			x, e := Not(c)
			if x != want || e != api.OK {
				t.Fatalf("Not(%v) = %v, %d", c, x, e)
			}
			if back, e := Not(x); back != c || e != api.OK {
				t.Fatalf("Not(%v) = %v, %d", x, back, e)
			}
		}
	}
}

// P8.2: forms written out: each line of the promise, and both sides of each of its edges.
func TestNorm(t *testing.T) {
	always, never := api.Norm{Always: true}, api.Norm{Never: true}
	plain := func(op int, mask, val uint64) api.Norm { return api.Norm{Op: op, Mask: mask, Val: val} }
	not := func(op int, mask, val uint64) api.Norm { return api.Norm{Op: op, Mask: mask, Val: val, Not: true} }
	for _, s := range []struct {
		op        int
		mask, val uint64
		want      api.Norm
	}{
		{eq, 6, 1, never}, {ne, 6, 1, always}, {eq, 6, 7, never}, {ne, 6, 7, always}, {eq, 0, 1, never}, {ne, 0, 1, always},
		{eq, 6, 2, plain(eq, 6, 2)}, {ne, 6, 2, not(eq, 6, 2)}, {eq, 6, 0, plain(eq, 6, 0)}, {ne, 6, 0, not(eq, 6, 0)},
		{eq, 6, 6, plain(eq, 6, 6)}, {ne, 6, 6, not(eq, 6, 6)}, {eq, 6, 8, never}, {ne, 6, 8, always},
		{eq, 0, 0, plain(eq, 0, 0)}, {ne, 0, 0, not(eq, 0, 0)},
		{eq, all, all, plain(eq, all, all)}, {ne, all, all, not(eq, all, all)},
		{eq, all, 0, plain(eq, all, 0)}, {ne, all - 1, all, always}, {eq, highest, all, never}, {ne, highest - 1, highest, always},
		{eq, highest, highest, plain(eq, highest, highest)},

		{lt, 7, 0, never}, {ge, 7, 0, always}, {lt, 0, 0, never}, {ge, 0, 0, always}, {lt, all, 0, never}, {ge, all, 0, always},
		{lt, 7, 1, not(ge, 7, 1)}, {ge, 7, 1, plain(ge, 7, 1)}, {lt, 7, 6, not(ge, 7, 6)}, {ge, 7, 6, plain(ge, 7, 6)},
		{lt, 7, 7, not(ge, 7, 7)}, {ge, 7, 7, plain(ge, 7, 7)}, {lt, 7, 8, always}, {ge, 7, 8, never},
		{lt, 0, 1, always}, {ge, 0, 1, never}, {lt, 7, all, always}, {ge, 7, all, never},
		{lt, all, all, not(ge, all, all)}, {ge, all, all, plain(ge, all, all)},
		{lt, all - 1, all, always}, {ge, all - 1, all, never}, {lt, 6, 3, not(ge, 6, 3)}, {ge, 6, 3, plain(ge, 6, 3)},
		{lt, highest, 1, not(ge, highest, 1)}, {ge, 1, highest, never},

		{le, 7, 7, always}, {gt, 7, 7, never}, {le, 7, 8, always}, {gt, 7, 8, never}, {le, 7, 6, not(gt, 7, 6)},
		{gt, 7, 6, plain(gt, 7, 6)}, {le, 7, 0, not(gt, 7, 0)}, {gt, 7, 0, plain(gt, 7, 0)}, {le, 0, 0, always},
		{gt, 0, 0, never}, {le, 0, all, always}, {gt, 0, all, never}, {le, all, all, always}, {gt, all, all, never},
		{le, all, all - 1, not(gt, all, all-1)}, {gt, all, all - 1, plain(gt, all, all-1)}, {le, 1, 0, not(gt, 1, 0)},
		{le, 6, 5, not(gt, 6, 5)}, {gt, 6, 5, plain(gt, 6, 5)}, {gt, highest, highest - 1, plain(gt, highest, highest-1)},
		{le, highest - 1, highest, always},
	} {
		for arg := range 6 {
			if n := Norm(api.Cond{Arg: arg, Op: s.op, Mask: s.mask, Val: s.val}); n != s.want {
				t.Errorf("Norm of Op %d, Mask %#x, Val %#x, Arg %d = %v, not %v", s.op, s.mask, s.val, arg, n, s.want)
			}
		}
	}
}

// P8.2: every Op with every Mask and Val of few bits, with those about the edges, and scattered, by the document's words.
func TestNormFollowsTheWords(t *testing.T) {
	l := append(someConds(0), wrongConds()...)
	for op := -1; op <= 8; op++ {
		for mask := range uint64(40) {
			for val := range uint64(70) {
				l = append(l, api.Cond{Arg: 3, Op: op, Mask: mask, Val: val})
			}
		}
	}
	r := chance(8)
	for range 20000 {
		c, _ := r.scattered()
		l = append(l, c)
	}
	for _, c := range l {
		if n := Norm(c); n != slowNorm(c) {
			t.Fatalf("Norm(%v) = %v, not %v", c, n, slowNorm(c))
		}
	}
}

// P8.2: a form is always so, or never, or has one of three Ops with the condition's own Mask and Val; nothing beside.
func TestNormIsOneForm(t *testing.T) {
	for _, c := range someConds(2) {
		n := Norm(c)
		if n == (api.Norm{Always: true}) || n == (api.Norm{Never: true}) {
			continue
		}
		n.Not = false
		if n.Op != eq && n.Op != gt && n.Op != ge || n != (api.Norm{Op: n.Op, Mask: c.Mask, Val: c.Val}) {
			t.Errorf("Norm(%v) = %v", c, n)
		}
	}
}

// P8.3: Always and Never are asked first, and Always ahead of Never, whatever else a form has.
func TestIsOfAlwaysAndNever(t *testing.T) {
	for _, op := range append(wrongOps, ops...) {
		for _, v := range []uint64{0, 4, 5, 6, 13, highest, all} {
			for _, not := range []bool{false, true} {
				n := api.Norm{Not: not, Op: op, Mask: 7, Val: 5}
				for _, s := range []struct{ always, never, want bool }{{true, false, true}, {false, true, false}, {true, true, true}} {
					n.Always, n.Never = s.always, s.never
					if Is(n, v) != s.want {
						t.Errorf("Is(%v, %d) = %v", n, v, !s.want)
					}
				}
			}
		}
	}
	if !Is(api.Norm{Always: true}, 0) || Is(api.Norm{Never: true}, 0) || !Is(api.Norm{Always: true, Never: true}, all) {
		t.Error("Always or Never alone")
	}
}

// P8.3: each of a form's Ops, with Not and without, with the answers written out.
func TestIs(t *testing.T) {
	for _, s := range []struct {
		op                  int
		less, same, greater bool
	}{
		{eq, false, true, false},
		{gt, false, false, true},
		{ge, false, true, true},
	} {
		for _, not := range []bool{false, true} {
			n := api.Norm{Not: not, Op: s.op, Mask: 7, Val: 5}
			for _, beside := range []uint64{0, 8, highest, all &^ 7} {
				less, same, greater := Is(n, beside|4), Is(n, beside|5), Is(n, beside|6)
				if less != (s.less != not) || same != (s.same != not) || greater != (s.greater != not) {
					t.Errorf("%v: of less %v, of the same %v, of more %v", n, less, same, greater)
				}
			}
		}
	}
}

// P8.3: of another Op a form holds nowhere, and with Not everywhere; Ne, Lt and Le are such ones too.
func TestIsOfOtherOps(t *testing.T) {
	for _, op := range append([]int{ne, lt, le}, wrongOps...) {
		for _, mask := range []uint64{0, 1, 7, highest, all} {
			for _, val := range []uint64{0, 5, mask, all} {
				for _, v := range numbersOf(mask, val) {
					if n := (api.Norm{Op: op, Mask: mask, Val: val}); Is(n, v) {
						t.Errorf("Is(%v, %#x) = true", n, v)
					}
					if n := (api.Norm{Op: op, Mask: mask, Val: val, Not: true}); !Is(n, v) {
						t.Errorf("Is(%v, %#x) = false", n, v)
					}
				}
			}
		}
	}
}

// P8.3: forms that are no condition's too: Val with bits that Mask has not, and Ops, Masks and Vals about the edges.
func TestIsFollowsTheWords(t *testing.T) {
	for op := -1; op <= 8; op++ {
		for _, mask := range masks() {
			for _, val := range vals(mask) {
				for _, v := range numbersOf(mask, val) {
					plain := api.Norm{Op: op, Mask: mask, Val: val}
					not := api.Norm{Op: op, Mask: mask, Val: val, Not: true}
					want := slowIs(plain, v)
					if Is(plain, v) != want || Is(not, v) == want {
						t.Fatalf("Is(%v, %#x) = %v, and with Not %v", plain, v, Is(plain, v), Is(not, v))
					}
				}
			}
		}
	}
}

// holdsAlike asks the theorem of one condition and one number, and what the condition's words say of both.
func holdsAlike(t *testing.T, c api.Cond, v uint64) {
	t.Helper()
	d := with(c.Arg, v, ^v)
	want := slowHolds(c.Op, v, c.Mask, c.Val)
	if Holds(c, d) != want {
		t.Fatalf("Holds(%v, %v) = %v", c, d, !want)
	}
	n := Norm(c)
	if Is(n, v) != want || n.Always && !want || n.Never && want {
		t.Fatalf("%v holds of %#x: %v, but its form is %v", c, v, want, n)
	}
	x, e := Not(c)
	if e != api.OK || Holds(x, d) == want || Is(Norm(x), v) == want {
		t.Fatalf("%v holds of %#x: %v, and so does Not of it, %v, %d", c, v, want, x, e)
	}
}

// P8.4: of all numbers, Masks and Vals of few bits.
func TestTheoremOfFewBits(t *testing.T) {
	for _, op := range ops {
		for mask := range uint64(16) {
			for val := range uint64(18) {
				for v := range uint64(32) {
					holdsAlike(t, api.Cond{Arg: int(v % 6), Op: op, Mask: mask, Val: val}, v)
				}
			}
		}
	}
}

// P8.4: about the edges, in all 64 bits.
func TestTheoremAboutEdges(t *testing.T) {
	for at, c := range someConds(0) {
		c.Arg = at % 6
		for _, v := range numbersOf(c.Mask, c.Val) {
			holdsAlike(t, c, v)
		}
	}
}

// P8.4: of scattered conditions and numbers.
func TestTheoremOfScattered(t *testing.T) {
	r := chance(84)
	for range 50000 {
		c, v := r.scattered()
		holdsAlike(t, c, v)
	}
}

// P8.4: a form that is Never holds of no number, one that may not be among them, and Always of each.
func TestTheoremOfAlwaysAndNever(t *testing.T) {
	for _, c := range append(wrongConds(), someConds(4)...) {
		n := Norm(c)
		if n.Always && n.Never {
			t.Errorf("Norm(%v) = %v", c, n)
		}
		for _, v := range numbersOf(c.Mask, c.Val) {
			if n.Always && !Is(n, v) || n.Never && Is(n, v) {
				t.Errorf("Is(%v, %#x) = %v", n, v, Is(n, v))
			}
		}
	}
}

// R4: what is answered hangs on nothing asked before.
func TestNothingIsKept(t *testing.T) {
	c := api.Cond{Arg: 1, Op: api.Le, Mask: 7, Val: 5}
	for range 3 {
		Not(api.Cond{Op: 99})
		Norm(api.Cond{Op: eq, Mask: 6, Val: 1})
		Is(api.Norm{Always: true}, 1)
		if n := Norm(c); n != (api.Norm{Op: gt, Not: true, Mask: 7, Val: 5}) {
			t.Error("Norm =", n)
		}
		if x, e := Not(c); x != (api.Cond{Arg: 1, Op: gt, Mask: 7, Val: 5}) || e != api.OK {
			t.Error("Not =", x, e)
		}
		if !Holds(c, with(1, 13, 0)) || Holds(c, with(1, 14, 0)) {
			t.Error("Holds of 13 and not of 14")
		}
	}
}
