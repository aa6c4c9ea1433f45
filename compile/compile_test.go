package compile

import (
	"fmt"
	"math"
	"slices"
	"strings"
	"testing"

	"fairlead/act"
	"fairlead/api"
	"fairlead/check"
	"fairlead/mean"
	"fairlead/parse"
	"fairlead/vm"
)

// The document's numbers, written out.
const (
	wrongArg   = 1
	wrongLong  = 4
	wrongName  = 8
	wrongTwice = 9

	mostIns   = 4096
	mostRules = 64
	mostNames = 16
	mostConds = 8

	arch = 0xC000003E
	bits = 1<<64 - 1
	low  = 1<<32 - 1
	high = low << 32

	killed  = 0x80000000
	allowed = 0x7fff0000
	logged  = 0x7ffc0000
)

// theCalls are those of the document, as it has them, from the least number on.
const theCalls = "read 0, write 1, open 2, close 3, stat 4, fstat 5, lstat 6, poll 7, lseek 8, mmap 9, mprotect 10, " +
	"munmap 11, brk 12, ioctl 16, access 21, pipe 22, dup 32, getpid 39, socket 41, connect 42, fork 57, execve 59, exit 60, " +
	"wait4 61, kill 62, uname 63, mkdir 83, unlink 87, openat 257, seccomp 317"

var names, numbers = readCalls()

func readCalls() ([]string, []uint32) {
	var names []string
	var numbers []uint32
	for _, pair := range strings.Split(theCalls, ", ") {
		var name string
		var nr uint32
		if n, err := fmt.Sscan(pair, &name, &nr); n != 2 || err != nil {
			panic(pair)
		}
		names, numbers = append(names, name), append(numbers, nr)
	}
	return names, numbers
}

// edges are the values about which words and what is asked of them change.
var edges = []uint64{
	0, 1, 2, 3, 1<<31 - 1, 1 << 31, 1<<31 + 1, 1<<32 - 2, 1<<32 - 1, 1 << 32, 1<<32 + 1, 1 << 33, 1<<33 - 1,
	1<<63 - 1, 1 << 63, 1<<63 + 1, bits - low - 1, bits - low, bits - low + 1, bits - 1, bits,
}

// masks are of no bits, of all, of bits of the lower word alone, of the higher one alone, and of both.
var masks = []uint64{
	0, bits, low, high, 1, 6, 0xff, 1 << 31, low - 1, 1 << 32, 6 << 32, 0xff << 32, 1 << 63, high - 1<<32,
	1<<32 + 1, 1<<63 + 1, 0xf0f0f0f0f0f0f0f0, 3<<31 + 1, bits - 1, bits >> 1, high + 1, low + 1<<63,
}

func anAct(kind, arg int) api.Act { return api.Act{Kind: kind, Arg: arg} }

func allow() api.Act { return anAct(api.Allow, 0) }

func aLog() api.Act { return anAct(api.Log, 0) }

func kill() api.Act { return anAct(api.Kill, 0) }

func rule(a api.Act, names string, conds ...api.Cond) api.Rule {
	return api.Rule{Act: a, Names: strings.Fields(names), Conds: conds}
}

func aCond(arg, op int, mask, val uint64) api.Cond {
	return api.Cond{Arg: arg, Op: op, Mask: mask, Val: val}
}

func rules(byDefault api.Act, l ...api.Rule) api.Rules { return api.Rules{Default: byDefault, L: l} }

// call is one of the rules' architecture.
func call(nr uint32, args ...uint64) api.Data {
	d := api.Data{Nr: nr, Arch: arch}
	copy(d.Args[:], args)
	return d
}

// parsed are the rules of a text.
func parsed(t *testing.T, text string) api.Rules {
	t.Helper()
	x, wrong, at := parse.Parse(text)
	if wrong != 0 {
		t.Fatalf("%q: %d, %d", text, wrong, at)
	}
	return x
}

// many is a list of so many like things.
func many[T any](n int, x T) []T { return slices.Repeat([]T{x}, n) }

// same tells whether rules are alike, nil lists and empty ones alike too.
func same(x, y api.Rules) bool {
	return x.Default == y.Default && slices.EqualFunc(x.L, y.L, func(a, b api.Rule) bool {
		return a.Act == b.Act && slices.Equal(a.Names, b.Names) && slices.Equal(a.Conds, b.Conds)
	})
}

// copied are like rules that share nothing with them.
func copied(x api.Rules) api.Rules {
	x.L = slices.Clone(x.L)
	for i := range x.L {
		x.L[i].Names = slices.Clone(x.L[i].Names)
		x.L[i].Conds = slices.Clone(x.L[i].Conds)
	}
	return x
}

// brief are rules as a test tells them.
func brief(x api.Rules) string { return fmt.Sprintf("%.300q", fmt.Sprint(x)) }

// refuses fails if Compile does not tell this error, and nothing beside it.
func refuses(t *testing.T, want api.Errno, x api.Rules) {
	t.Helper()
	if l, wrong := Compile(x); len(l) != 0 || wrong != want {
		t.Errorf("%s: %d instructions, %d: not %d", brief(x), len(l), wrong, want)
	}
}

// mayRun fails if a program may not be run.
func mayRun(t *testing.T, x api.Rules, l []api.Ins) {
	t.Helper()
	if wrong, at := check.Check(l...); wrong != 0 || at != -1 || len(l) > mostIns {
		t.Fatalf("%s: %d instructions, may not be run: %d, %d", brief(x), len(l), wrong, at)
	}
}

// compiled is the program of rules, which there must be, and which may be run; it is never longer than they weigh, so that none
// of the weight 4096 is too long.
func compiled(t *testing.T, x api.Rules) []api.Ins {
	t.Helper()
	l, wrong := Compile(x)
	if wrong != 0 {
		t.Fatalf("%s, of the weight %d: %d", brief(x), mean.Weight(x), wrong)
	}
	mayRun(t, x, l)
	if weight := mean.Weight(x); len(l) > weight {
		t.Fatalf("%s, of the weight %d: %d instructions", brief(x), weight, len(l))
	}
	return l
}

// bound is how many instructions a program of rules may go through, as the words of P14.3 have it.
func bound(x api.Rules, d api.Data) int {
	n := 64
	at := slices.Index(numbers, d.Nr)
	for _, r := range x.L {
		if at >= 0 && slices.Contains(r.Names, names[at]) {
			n += 20*len(r.Conds) + 2
		}
	}
	return n
}

// answers fails if a program of rules answers another number of a call, or goes through too many instructions.
func answers(t *testing.T, want uint32, x api.Rules, l []api.Ins, d api.Data) {
	t.Helper()
	v, n, wrong := vm.Run(l, d)
	if v != want || wrong != 0 {
		t.Errorf("%s of %v: %#x, %d: not %#x", brief(x), d, v, wrong, want)
	}
	if most := bound(x, d); n > most || n < 1 {
		t.Errorf("%s of %v: through %d instructions, of %d", brief(x), d, n, most)
	}
}

// follows fails if a program of rules answers of one of these calls what the rules do not mean.
func follows(t *testing.T, x api.Rules, l []api.Ins, calls ...api.Data) {
	t.Helper()
	for _, d := range calls {
		a, wrong := mean.Decide(x, d)
		want, wrongAct := act.Value(a)
		if wrong != 0 || wrongAct != 0 {
			t.Fatalf("%s of %v: %d, %d", brief(x), d, wrong, wrongAct)
		}
		answers(t, want, x, l, d)
	}
}

// holds compiles rules, and fails if the program is none of theirs; where their weight is above 4096 there may be none.
func holds(t *testing.T, x api.Rules, calls ...api.Data) {
	t.Helper()
	l, wrong := Compile(x)
	if wrong == wrongLong && mean.Weight(x) > 4096 && len(l) == 0 {
		return
	}
	if wrong != 0 {
		t.Fatalf("%s, of the weight %d: %d, %d instructions", brief(x), mean.Weight(x), wrong, len(l))
	}
	mayRun(t, x, l)
	follows(t, x, l, calls...)
}

// everyNumber are calls of all known numbers, of all small ones, and of great ones.
func everyNumber(args ...uint64) []api.Data {
	var l []api.Data
	for nr := range uint32(330) {
		l = append(l, call(nr, args...))
	}
	for _, nr := range numbers {
		for _, bit := range []int{9, 15, 16, 24, 31} {
			l = append(l, call(nr|1<<bit, args...))
		}
	}
	return append(l, call(math.MaxUint32, args...), call(math.MaxUint32-1, args...), call(1<<31-1, args...))
}

// otherArchs are calls of other architectures.
func otherArchs(nr uint32, args ...uint64) []api.Data {
	var l []api.Data
	for _, other := range []uint32{0, 1, arch - 1, arch + 1, 0x40000003, 0x3E, 0x3E0000C0, math.MaxUint32} {
		l = append(l, call(nr, args...))
		l[len(l)-1].Arch = other
	}
	for bit := range 32 {
		l = append(l, call(nr, args...))
		l[len(l)-1].Arch ^= 1 << bit
	}
	return l
}

// everyAct are acts of each kind, with the edges of their Args.
func everyAct() []api.Act {
	var l []api.Act
	for kind := api.Kill; kind <= api.Allow; kind++ {
		l = append(l, anAct(kind, 0))
		if numbered(kind) {
			l = append(l, anAct(kind, 1), anAct(kind, 13), anAct(kind, 65535))
		}
	}
	return l
}

func numbered(kind int) bool { return kind == 3 || kind == 4 || kind == 6 }

// chance is a row of numbers that look scattered, and are the same at each run of the tests.
type chance uint64

func (c *chance) below(n int) int {
	*c += 0x9e3779b97f4a7c15
	z := uint64(*c)
	z = (z ^ z>>30) * 0xbf58476d1ce4e5b9
	z = (z ^ z>>27) * 0x94d049bb133111eb
	return int((z ^ z>>31) % uint64(n))
}

func one[T any](c *chance, l []T) T { return l[c.below(len(l))] }

// value is a number at an edge, a small one, or any.
func (c *chance) value() uint64 {
	any64 := uint64(c.below(1<<32))<<32 + uint64(c.below(1<<32))
	return one(c, []uint64{one(c, edges), one(c, edges), uint64(c.below(8)), uint64(c.below(4)) << 32, any64})
}

func (c *chance) anAct() api.Act { return one(c, everyAct()) }

func (c *chance) aCond() api.Cond {
	mask := one(c, []uint64{bits, one(c, masks), one(c, masks), c.value()})
	val := c.value()
	if c.below(3) > 0 {
		val &= mask
	}
	return aCond(c.below(6), 1+c.below(6), mask, val)
}

// some are so many names, no two alike, of the first few.
func (c *chance) some(n, few int) []string {
	l := slices.Clone(names[:few])
	var told []string
	for range n {
		i := c.below(len(l))
		told = append(told, l[i])
		l = slices.Delete(l, i, i+1)
	}
	return told
}

// rules are at most so many that mean something.
func (c *chance) rules(most int) api.Rules {
	x := rules(c.anAct())
	few := one(c, []int{mostNames, 20, len(names)})
	for range c.below(most + 1) {
		r := api.Rule{Act: c.anAct(), Names: c.some(1+c.below(one(c, []int{1, 3, mostNames})), few)}
		for range c.below(one(c, []int{1, 2, 3, mostConds + 1})) {
			r.Conds = append(r.Conds, c.aCond())
		}
		x.L = append(x.L, r)
	}
	return x
}

// call is one of which rules speak, mostly, with arguments near to what they ask: a condition's Val, or a number beside it,
// with other bits where it does not ask.
func (c *chance) call(x api.Rules) api.Data {
	d := call(one(c, numbers), c.value(), c.value(), c.value(), c.value(), c.value(), c.value())
	d.Ip = c.value()
	if c.below(20) == 0 {
		d.Arch = one(c, []uint32{0, arch ^ 1, arch ^ 1<<31, uint32(c.below(1 << 32))})
	}
	if c.below(10) == 0 {
		d.Nr = one(c, []uint32{uint32(c.below(400)), d.Nr + 1<<16, math.MaxUint32})
	}
	if len(x.L) == 0 {
		return d
	}
	r := one(c, x.L)
	if c.below(10) > 0 {
		d.Nr = numbers[slices.Index(names, one(c, r.Names))]
	}
	for _, a := range r.Conds {
		near := one(c, []uint64{0, 0, 1, bits, 1 << 32, 1 << 31, high})
		d.Args[a.Arg] = (a.Val+near)&a.Mask | c.value()&^a.Mask
	}
	return d
}

func (c *chance) calls(n int, x api.Rules) []api.Data {
	var l []api.Data
	for range n {
		l = append(l, c.call(x))
	}
	return l
}

// The numbers that api gives what stands in rules and programs.
func TestNumbersAreNamed(t *testing.T) {
	if api.OK != 0 || api.ErrArg != wrongArg || api.ErrLong != wrongLong || api.ErrName != wrongName || api.ErrTwice != wrongTwice {
		t.Error("errors")
	}
	if api.MaxIns != mostIns || api.MaxRules != mostRules || api.MaxNames != mostNames || api.MaxConds != mostConds ||
		api.Arch != arch {
		t.Error("limits")
	}
	if api.Eq != 1 || api.Ne != 2 || api.Lt != 3 || api.Le != 4 || api.Gt != 5 || api.Ge != 6 {
		t.Error("ops")
	}
}

// The chapter's example.
func TestExample(t *testing.T) {
	x := parsed(t, "default allow;")
	l := compiled(t, x)
	for _, d := range everyNumber(1, 2, 3, 4, 5, 6) {
		answers(t, allowed, x, l, d)
	}
	for _, d := range otherArchs(0) {
		answers(t, killed, x, l, d)
	}
}

// Of the ten examples of the whole, the first four.
func TestExamplesOfTheWhole(t *testing.T) {
	x := parsed(t, "default kill; allow read, write; errno 13 open when arg1 & 3 != 0;")
	l := compiled(t, x)
	answers(t, 0x7fff0000, x, l, call(0))
	answers(t, 0x7fff0000, x, l, call(1))
	answers(t, 0x0005000d, x, l, call(2, 0, 2))
	answers(t, 0x80000000, x, l, call(2, 0, 4))
	answers(t, 0x80000000, x, l, call(3))
	upon := parsed(t, "default allow; log read;")
	second := compiled(t, upon)
	for _, e := range []struct {
		nr   uint32
		want uint32
	}{{0, logged}, {1, allowed}, {3, killed}} {
		one, _, _ := vm.Run(l, call(e.nr))
		other, _, _ := vm.Run(second, call(e.nr))
		if v := act.Most(other, one); v != e.want {
			t.Errorf("%d: %#x and %#x: %#x", e.nr, one, other, v)
		}
	}
	for nr := range uint32(4) {
		for _, d := range otherArchs(nr, 0, 2) {
			answers(t, killed, x, l, d)
			answers(t, killed, upon, second, d)
		}
	}
}

// Of the ten examples of the whole, the fifth: what asks of one word alone loads the other one of no call.
func TestOneWordAlone(t *testing.T) {
	x := parsed(t, "default kill; allow read when arg0 & 0xff00000000 == 0x100000000;")
	l := compiled(t, x)
	for v, want := range map[uint64]uint32{
		1 << 32: allowed, 1<<32 + 7: allowed, 1<<32 + low: allowed, 1<<40 + 1<<32: allowed, 1<<63 + 1<<32 + 1: allowed,
		0: killed, 1: killed, low: killed, 2 << 32: killed, 3 << 32: killed, 1 << 40: killed, bits: killed,
	} {
		answers(t, want, x, l, call(0, v))
	}
	for op := api.Eq; op <= api.Ge; op++ {
		for arg := range 6 {
			lowAt, highAt := 16+8*uint32(arg), 20+8*uint32(arg)
			for _, mask := range []uint64{high, 0xff << 32, 1 << 63} {
				loadsNot(t, lowAt, rules(kill(), rule(allow(), "read", aCond(arg, op, mask, mask&(1<<63+1<<32)))))
				loadsNot(t, lowAt, rules(kill(), rule(allow(), "read", aCond(arg, op, mask, 1<<32+5))))
			}
			for _, mask := range []uint64{low, 0xff, 1 << 31} {
				loadsNot(t, highAt, rules(kill(), rule(allow(), "read", aCond(arg, op, mask, mask&(1<<31+1)))))
			}
		}
	}
}

// loadsNot fails if a program of rules has a load of this place.
func loadsNot(t *testing.T, at uint32, x api.Rules) {
	t.Helper()
	for _, i := range compiled(t, x) {
		if i.Code == api.LdAbs && i.K == at {
			t.Errorf("%s: %d is loaded", brief(x), at)
		}
	}
}

// P14.1: of rules that mean nothing mean.Check's error is told, and no program.
func TestRulesThatMeanNothing(t *testing.T) {
	r := rule(aLog(), "read")
	for _, x := range []api.Rules{{}, {L: []api.Rule{r}}, rules(anAct(9, 0)), rules(anAct(-1, 0)), rules(anAct(1, 1)),
		rules(anAct(4, 65536)), rules(anAct(3, -1)), rules(aLog(), many(mostRules+1, r)...), rules(aLog(), api.Rule{}),
		rules(aLog(), rule(aLog(), "")), rules(aLog(), api.Rule{Act: aLog(), Names: many(17, "read")}),
		rules(aLog(), api.Rule{Names: []string{"read"}}), rules(aLog(), rule(anAct(8, 1), "read")),
		rules(aLog(), rule(aLog(), "Read")), rules(aLog(), api.Rule{Act: aLog(), Names: []string{"read", ""}}),
		rules(aLog(), rule(aLog(), "read", api.Cond{})), rules(aLog(), rule(aLog(), "read", aCond(6, 1, 1, 1))),
		rules(aLog(), rule(aLog(), "read", aCond(-1, 1, 1, 1))), rules(aLog(), rule(aLog(), "read", aCond(0, 7, 1, 1))),
		rules(aLog(), rule(aLog(), "read", many(mostConds+1, aCond(0, 1, 1, 1))...)),
		rules(aLog(), rule(aLog(), "nope"), rule(aLog(), "read read"), rule(aLog(), "read", aCond(0, 0, 1, 1)))} {
		refuses(t, wrongArg, x)
	}
	for _, bad := range []string{"nope", "a a", "read nope", "read nope read", "read read nope", "reads", "n0", "when"} {
		refuses(t, wrongName, rules(aLog(), rule(aLog(), bad)))
		refuses(t, wrongName, rules(aLog(), r, r, rule(aLog(), bad), rule(aLog(), "read read")))
	}
	for _, bad := range []string{"read read", "read write read", "write read read", "seccomp openat kill seccomp"} {
		refuses(t, wrongTwice, rules(aLog(), rule(aLog(), bad)))
		refuses(t, wrongTwice, rules(aLog(), r, rule(aLog(), bad), r, rule(aLog(), "nope")))
		refuses(t, wrongTwice, rules(aLog(), rule(aLog(), bad, aCond(0, api.Lt, bits, 0))))
	}
}

// P14.1: that rules mean nothing is told ahead of that they are too long.
func TestWhatMeansNothingIsToldFirst(t *testing.T) {
	for at := range mostRules {
		for bad, want := range map[string]api.Errno{"nope": wrongName, "Nope": wrongArg, names[14]: wrongTwice} {
			x := heaviest()
			x.L[at].Names[mostNames-1] = bad
			x.L[at].Names[mostNames-2] = names[14]
			refuses(t, want, x)
		}
	}
}

// heaviest are as many rules as there may be, with as many names and conditions, of which none is settled ahead of a call.
func heaviest() api.Rules {
	x := rules(aLog())
	for i := range mostRules {
		r := api.Rule{Act: anAct(api.Errno_, i)}
		for k := range mostNames {
			r.Names = append(r.Names, names[(i*7+k)%len(names)])
		}
		for k := range mostConds {
			r.Conds = append(r.Conds, long(i+k))
		}
		x.L = append(x.L, r)
	}
	return x
}

// long is a condition that asks bits of both words.
func long(i int) api.Cond {
	return aCond(i%6, []int{api.Ge, api.Gt, api.Lt, api.Le}[i%4], bits-1<<40-1<<8, uint64(i%5)<<32+uint64(i%7)+1)
}

// weighing are rules of just this weight, which must be a multiple of 8: of rules of so many names and so many conditions, with
// smaller ones where no more of these fit; they are lighter only if there may be no more rules.
func weighing(weight, n, conds int) api.Rules {
	x := rules(anAct(api.Trap, 9))
	left := weight/8 - 1
	for left > 0 && len(x.L) < mostRules {
		for n*(conds+1) > left {
			if conds > 0 {
				conds--
			} else {
				n--
			}
		}
		at := len(x.L)
		r := api.Rule{Act: anAct(api.Errno_, at)}
		for k := range n {
			r.Names = append(r.Names, names[(at*5+k)%len(names)])
		}
		for k := range conds {
			r.Conds = append(r.Conds, long(at+k))
		}
		x.L = append(x.L, r)
		left -= n * (conds + 1)
	}
	return x
}

// P14.1: of rules of a weight of at most 4096 there is a program, however they come to it; of 4096 itself too.
func TestWeightOfAtMostTheLimit(t *testing.T) {
	c := chance(141)
	reached := 0
	for n := 1; n <= mostNames; n++ {
		for conds := range mostConds + 1 {
			for _, weight := range []int{8, 16, 24, 1024, 2048, 4080, 4088, 4096} {
				x := weighing(weight, n, conds)
				if mean.Weight(x) > weight {
					t.Fatal(mean.Weight(x), weight)
				}
				if mean.Weight(x) == 4096 {
					reached++
				}
				l := compiled(t, x)
				follows(t, x, l, c.calls(4, x)...)
				follows(t, x, l, call(uint32(c.below(320)), 1<<32+1))
			}
		}
	}
	if reached < 80 {
		t.Errorf("%d of the weight 4096", reached)
	}
}

// P14.1: so it is of rules of one call alone, of which each is asked, and of conditions of every kind.
func TestWeightOfOneCall(t *testing.T) {
	c := chance(142)
	for _, name := range []string{"read", "mmap", "seccomp"} {
		for op := api.Eq; op <= api.Ge; op++ {
			x := rules(aLog())
			for i := range 63 {
				conds := many(mostConds, aCond(i%6, op, bits-1<<33-1<<3, uint64(i)<<36+uint64(i)<<4))
				if i >= 56 {
					conds = nil
				}
				x.L = append(x.L, rule(anAct(api.Trace, i), name, conds...))
			}
			if mean.Weight(x) != 4096 {
				t.Fatal(mean.Weight(x))
			}
			for range 2 {
				l := compiled(t, x)
				follows(t, x, l, c.calls(100, x)...)
				follows(t, x, l, call(0), call(9), call(317), call(317, bits, bits, bits, bits, bits, bits))
				slices.Reverse(x.L[:56])
			}
		}
	}
}

// P14.1: scattered rules of just the weight 4096.
func TestScatteredWeights(t *testing.T) {
	c := chance(143)
	for range 150 {
		x, left := rules(c.anAct()), 511
		for left > 0 && len(x.L) < mostRules {
			n, conds := 1+c.below(mostNames), c.below(mostConds+1)
			if len(x.L) < 40 {
				n = 1 + c.below(4)
			}
			if n*(conds+1) > left {
				n, conds = min(left, mostNames), 0
			}
			r := api.Rule{Act: c.anAct(), Names: c.some(n, one(&c, []int{mostNames, len(names)}))}
			for range conds {
				r.Conds = append(r.Conds, long(c.below(1000)))
			}
			x.L = append(x.L, r)
			left -= n * (conds + 1)
		}
		if left == 0 != (mean.Weight(x) == 4096) {
			t.Fatal(left, mean.Weight(x))
		}
		l := compiled(t, x)
		follows(t, x, l, c.calls(10, x)...)
	}
}

// P14.1, P14.2: above that weight there is ErrLong and no program, or one that may be run, and answers what the rules mean.
func TestWeightAboveTheLimit(t *testing.T) {
	c := chance(144)
	for n := 1; n <= mostNames; n++ {
		for conds := range mostConds + 1 {
			for _, weight := range []int{4104, 4112, 4400, 5000, 8192, 1 << 20} {
				x := weighing(weight, n, conds)
				holds(t, x, c.calls(4, x)...)
			}
		}
	}
	x := heaviest()
	if mean.Weight(x) != 8+64*16*72 {
		t.Fatal(mean.Weight(x))
	}
	holds(t, x, c.calls(20, x)...)
	for i := range x.L {
		for k := range mostConds {
			x.L[i].Conds[k] = aCond(0, api.Ne, 0, 0)
		}
	}
	holds(t, x, c.calls(20, x)...)
	for i := range x.L {
		x.L[i].Conds = nil
	}
	holds(t, x, c.calls(20, x)...)
}

// P14.1: rules are refused just if their program is too long: one of 4096 instructions is told, one of 4097 is not.
func TestLengthAtTheLimit(t *testing.T) {
	c := chance(152)
	short, longer := aCond(1, api.Eq, low, 1), aCond(2, api.Eq, 0xff, 2)
	x := rules(aLog())
	for i := range 35 {
		x.L = append(x.L, rule(anAct(api.Errno_, i), "read write", many(mostConds, long(i))...))
	}
	for range 5 {
		x.L = append(x.L, rule(kill(), "read", many(mostConds, short)...))
	}
	x.L = append(x.L, rule(allow(), "read", short, short, short, short))
	if n := len(program(x)); n != mostIns {
		t.Fatal(n)
	}
	follows(t, x, compiled(t, x), c.calls(100, x)...)
	x.L[len(x.L)-1].Conds[3] = longer
	if n := len(program(x)); n != mostIns+1 {
		t.Fatal(n)
	}
	refuses(t, wrongLong, x)
}

// P14.2: without any rule each call of the architecture is decided by the default, whatever act that is; others by Kill.
func TestDefaultAlone(t *testing.T) {
	values := map[int]uint32{1: 0x80000000, 2: 0, 3: 0x30000, 4: 0x50000, 5: 0x7fc00000, 6: 0x7ff00000, 7: 0x7ffc0000, 8: 0x7fff0000}
	for _, a := range everyAct() {
		x := rules(a)
		l := compiled(t, x)
		for _, d := range everyNumber() {
			answers(t, values[a.Kind]+uint32(a.Arg), x, l, d)
		}
		for _, d := range otherArchs(0) {
			answers(t, killed, x, l, d)
		}
	}
}

// P14.2: each act is told of a rule, with and without conditions, and as what is left where no rule decides.
func TestEveryAct(t *testing.T) {
	for _, a := range everyAct() {
		for _, b := range everyAct() {
			x := rules(a, rule(b, "read"), rule(b, "write", aCond(0, api.Eq, bits, 5)))
			l := compiled(t, x)
			follows(t, x, l, call(0), call(1, 5), call(1, 6), call(2), call(3))
		}
	}
}

// P14.2: of another architecture it is Kill, whatever the rules say of the number.
func TestOtherArch(t *testing.T) {
	for _, x := range []api.Rules{rules(allow(), rule(allow(), "read")), rules(aLog(), rule(allow(), "read", aCond(0, api.Eq, bits, 0))),
		rules(anAct(api.Thread, 0), rule(anAct(api.Errno_, 1), strings.Join(names[:mostNames], " "))), heavy(20)} {
		l := compiled(t, x)
		for _, nr := range append(numbers, 13, 1000, math.MaxUint32, arch) {
			for _, d := range otherArchs(nr) {
				answers(t, killed, x, l, d)
			}
		}
	}
}

// heavy are so many rules of the first three calls, with conditions.
func heavy(n int) api.Rules {
	x := rules(allow())
	for i := range n {
		x.L = append(x.L, rule(anAct(api.Errno_, i), "read write open", long(i), long(i+1), long(i+2)))
	}
	return x
}

// P14.2: rules that speak of one call, of each two, of so many as there may be, from either end and all between: numbers that
// stand in no rule, below, between and above those that do, are decided by the default.
func TestEveryNumber(t *testing.T) {
	c := chance(145)
	for i, name := range names {
		x := rules(aLog(), rule(allow(), name))
		follows(t, x, compiled(t, x), everyNumber()...)
		for k, other := range names[:i] {
			x := rules(aLog(), rule(allow(), name), rule(anAct(api.Errno_, k), other))
			l := compiled(t, x)
			for _, nr := range []uint32{numbers[i], numbers[k]} {
				follows(t, x, l, call(nr-1), call(nr), call(nr+1), call(nr^1<<31), call(0), call(math.MaxUint32))
			}
		}
	}
	for n := range len(names) + 1 {
		for _, some := range [][]string{names[:n], names[len(names)-n:], c.some(n, len(names))} {
			x := rules(aLog())
			for i, name := range some {
				x.L = append(x.L, rule(anAct(api.Trap, 100+i), name))
			}
			follows(t, x, compiled(t, x), everyNumber()...)
			for i := range x.L {
				x.L[i].Conds = []api.Cond{aCond(i%6, api.Ge, bits, 1<<33)}
			}
			l := compiled(t, x)
			follows(t, x, l, everyNumber()...)
			follows(t, x, l, everyNumber(1<<34, 1<<33, 1<<33+1, bits, 1<<35, 1<<63)...)
			follows(t, x, l, everyNumber(1<<34, 0, 1<<33-1, 0, bits, 0)...)
		}
	}
}

// P14.2: all names of a rule are spoken of, and its conditions are asked of each of them.
func TestEveryNameOfARule(t *testing.T) {
	for from := 0; from+mostNames <= len(names); from++ {
		some := strings.Join(names[from:from+mostNames], " ")
		x := rules(aLog(), rule(allow(), some, aCond(2, api.Eq, 0xff, 7)))
		l := compiled(t, x)
		follows(t, x, l, everyNumber(0, 0, 7)...)
		follows(t, x, l, everyNumber(7, 7, 8, 7, 7, 7)...)
	}
	x := rules(aLog(), rule(allow(), strings.Join(names[:15], " ")), rule(kill(), strings.Join(names[15:], " ")),
		rule(anAct(api.Errno_, 1), strings.Join(names[7:23], " ")))
	follows(t, x, compiled(t, x), everyNumber()...)
}

// P14.2: calls are found whatever the lengths of the programs are that must be left out on the way to them: those that a jump on
// a condition can leave out, one more, and many more.
func TestFarCalls(t *testing.T) {
	short, longer := aCond(1, api.Eq, low, 1), aCond(2, api.Eq, 0xff, 2)
	for wide := range 26 {
		for few := range 28 {
			x := rules(aLog())
			for i := range wide {
				x.L = append(x.L, rule(anAct(api.Errno_, i), "read", many(mostConds, short)...))
			}
			for i := range few % 7 {
				x.L = append(x.L, rule(anAct(api.Trap, i), "read", short))
			}
			for i := range few / 7 {
				x.L = append(x.L, rule(anAct(api.Trace, i), "read", longer))
			}
			x.L = append(x.L, rule(allow(), "write"), rule(kill(), "close"))
			l := compiled(t, x)
			follows(t, x, l, call(0), call(0, 0, 1), call(0, 0, 0, 2), call(0, 0, 1, 2), call(1), call(2), call(3), call(4))
		}
	}
}

// P14.2: so it is where several calls have long programs, one behind the other.
func TestManyFarCalls(t *testing.T) {
	c := chance(146)
	for n := 2; n <= 8; n++ {
		for each := 1; each*n <= mostRules; each++ {
			x := rules(aLog())
			some := c.some(n, len(names))
			for i := range each * n {
				x.L = append(x.L, rule(anAct(api.Errno_, i), some[i%n], many(1+c.below(6), long(i))...))
			}
			if mean.Weight(x) > 4096 {
				break
			}
			l := compiled(t, x)
			follows(t, x, l, c.calls(30, x)...)
			for _, nr := range numbers {
				follows(t, x, l, call(nr-1), call(nr), call(nr+1))
			}
		}
	}
}

// P14.2: several rules of one call: the first whose conditions hold decides; one without conditions leaves nothing to those
// behind it.
func TestRulesOfOneCall(t *testing.T) {
	five := aCond(0, api.Eq, bits, 5)
	at := func(i int) api.Act { return anAct(api.Errno_, i) }
	l := []api.Rule{rule(at(1), "read", five), rule(at(2), "write"), rule(at(3), "read", aCond(0, api.Lt, bits, 6)),
		rule(at(4), "read"), rule(at(5), "read", five), rule(at(6), "open read")}
	x := rules(aLog(), l...)
	program := compiled(t, x)
	for v, want := range map[uint64]uint32{5: 0x50001, 4: 0x50003, 0: 0x50003, 6: 0x50004, bits: 0x50004, 1<<32 + 5: 0x50004} {
		answers(t, want, x, program, call(0, v))
	}
	answers(t, 0x50002, x, program, call(1, 5))
	answers(t, 0x50006, x, program, call(2, 5))
	answers(t, logged, x, program, call(3, 5))
	calls := []api.Data{call(0, 5), call(0, 4), call(0, 6), call(0, 1<<32+5), call(1, 5), call(1, 6), call(2, 5), call(3, 5)}
	for i := range l {
		for k := range l {
			for m := range l {
				x := rules(kill(), l[i], l[k], l[m])
				follows(t, x, compiled(t, x), calls...)
			}
		}
	}
}

// P14.2: each of as many rules as there may be decides the calls that those ahead of it leave.
func TestEveryRuleDecides(t *testing.T) {
	x := rules(aLog())
	for i := range mostRules {
		x.L = append(x.L, rule(anAct(api.Trace, i), "write", aCond(1, api.Le, bits, uint64(i)<<31)))
	}
	l := compiled(t, x)
	for i := range mostRules {
		v := uint64(i) << 31
		answers(t, 0x7ff00000+uint32(i), x, l, call(1, 0, v))
		follows(t, x, l, call(1, 0, v+1), call(1, 0, v-1), call(0, 0, v), call(2, 0, v))
	}
	answers(t, logged, x, l, call(1, 0, mostRules<<31))
}

// P14.2: a rule decides if all its conditions hold, and not if some or none do, wherever they stand.
func TestAllConditionsMustHold(t *testing.T) {
	for n := range mostConds + 1 {
		for mask := range 1 << n {
			r := rule(anAct(api.Errno_, 5), "read")
			d := call(0)
			for i := range n {
				r.Conds = append(r.Conds, aCond(i%6, api.Eq, 0xff<<(8*(i/6)+28), 5<<(8*(i/6)+28)))
				d.Args[i%6] |= 5 << (8*(i/6) + 28)
				if mask>>i&1 == 0 {
					d.Args[i%6] ^= 1 << (8*(i/6) + 28 + i%8)
				}
			}
			want := uint32(logged)
			if mask == 1<<n-1 {
				want = 0x50005
			}
			x := rules(aLog(), r)
			answers(t, want, x, compiled(t, x), d)
			x = rules(kill(), r, rule(aLog(), "read"))
			answers(t, want, x, compiled(t, x), d)
		}
	}
}

// asked are the values of an argument that are worth asking a condition of: those at the edges, and those about its Val, with
// and without other bits than those of its Mask.
func asked(c api.Cond) []uint64 {
	l := slices.Clone(edges)
	for _, v := range []uint64{c.Val, c.Val - 1, c.Val + 1, c.Val ^ 1<<32, c.Val ^ 1<<31, c.Val ^ 1<<63, c.Val - 1<<32, c.Val + 1<<32} {
		l = append(l, v, v&c.Mask, v|^c.Mask, v&c.Mask|0x5a5a5a5a5a5a5a5a&^c.Mask)
	}
	return append(l, c.Mask, ^c.Mask)
}

// holdsOf is whether a condition holds of a value, by the words of chapter 8.
func holdsOf(c api.Cond, v uint64) bool {
	v &= c.Mask
	return []bool{v == c.Val, v != c.Val, v < c.Val, v <= c.Val, v > c.Val, v >= c.Val}[c.Op-1]
}

// P14.2: conditions of each kind, with masks of no bits, of all, of one word alone and of both, held against values at the
// edges, that fit the mask and that never can, ask the one argument, and hold of it as chapter 8 says.
func TestEveryCondition(t *testing.T) {
	answer := map[bool]uint32{true: allowed, false: logged}
	for op := api.Eq; op <= api.Ge; op++ {
		for i, mask := range masks {
			vals := append(slices.Clone(edges), mask, mask-1, mask+1, mask&(1<<63+1<<31+1), mask&-mask)
			for k, val := range vals {
				c := aCond((i+k)%6, op, mask, val)
				x := rules(aLog(), rule(allow(), "open", c))
				l := compiled(t, x)
				for _, v := range asked(c) {
					d := call(2, ^v, ^v, ^v, ^v, ^v, ^v)
					d.Args[c.Arg] = v
					answers(t, answer[holdsOf(c, v)], x, l, d)
				}
				if t.Failed() {
					return
				}
			}
		}
	}
}

// P14.2: so it is of each argument.
func TestEveryArgument(t *testing.T) {
	for arg := range 6 {
		for op := api.Eq; op <= api.Ge; op++ {
			for _, mask := range []uint64{0, bits, low, high, 0xff00ff00ff00ff} {
				c := aCond(arg, op, mask, 0x1200340056&mask)
				x := rules(aLog(), rule(allow(), "open", c))
				l := compiled(t, x)
				for _, v := range asked(c) {
					for _, others := range []uint64{0, c.Val, bits, ^v} {
						d := call(2, others, others, others, others, others, others)
						d.Args[arg] = v
						follows(t, x, l, d)
					}
				}
			}
		}
	}
}

// P14.2: conditions that hold always leave a rule as it is without them; with one that never holds the rule decides nothing.
func TestSettledConditions(t *testing.T) {
	some := aCond(0, api.Ge, bits, 1<<32+1)
	always := []api.Cond{aCond(1, api.Eq, 0, 0), aCond(1, api.Ne, 0, 1), aCond(1, api.Ge, bits, 0), aCond(1, api.Le, bits, bits),
		aCond(1, api.Le, 7, 7), aCond(1, api.Lt, 7, 8), aCond(1, api.Ne, 6, 1), aCond(1, api.Le, 0, 0), aCond(1, api.Ge, 0, 0),
		aCond(1, api.Lt, 0, 1), aCond(1, api.Ne, low, 1<<32), aCond(1, api.Ne, high, 1), aCond(1, api.Lt, low, 1<<32)}
	never := []api.Cond{aCond(1, api.Ne, 0, 0), aCond(1, api.Eq, 0, 1), aCond(1, api.Lt, bits, 0), aCond(1, api.Gt, bits, bits),
		aCond(1, api.Gt, 7, 7), aCond(1, api.Ge, 7, 8), aCond(1, api.Eq, 6, 1), aCond(1, api.Gt, 0, 0), aCond(1, api.Lt, 0, 0),
		aCond(1, api.Ge, 0, 1), aCond(1, api.Eq, low, 1<<32), aCond(1, api.Eq, high, 1), aCond(1, api.Ge, low, 1<<32)}
	expect := func(x api.Rules, large, small uint32) {
		t.Helper()
		l := compiled(t, x)
		for _, v := range edges {
			answers(t, large, x, l, call(0, 1<<32+1, v))
			answers(t, small, x, l, call(0, 1<<32, v))
			answers(t, logged, x, l, call(1, 1<<32+1, v))
		}
	}
	for _, a := range always {
		expect(rules(aLog(), rule(allow(), "read", a)), allowed, allowed)
		expect(rules(aLog(), rule(allow(), "read", a), rule(kill(), "read")), allowed, allowed)
		for _, conds := range [][]api.Cond{{a, some}, {some, a}, {a, some, a, a}} {
			expect(rules(aLog(), rule(allow(), "read", conds...), rule(kill(), "read")), allowed, killed)
		}
	}
	for i, n := range never {
		expect(rules(aLog(), rule(allow(), "read", n)), logged, logged)
		for _, conds := range [][]api.Cond{{n}, {n, some}, {some, n}, {n, always[i]}, {always[i], n}, {always[i], some, n, some}} {
			expect(rules(aLog(), rule(allow(), "read", conds...), rule(kill(), "read", some)), killed, logged)
		}
	}
}

// P14.2: neither the place of a call nor arguments of which no rule asks matter.
func TestWhatIsNotAsked(t *testing.T) {
	x := rules(aLog(), rule(allow(), "read", aCond(3, api.Eq, bits, 1<<32+7)), rule(kill(), "write"))
	l := compiled(t, x)
	for _, ip := range edges {
		for _, v := range edges {
			for nr, want := range []uint32{allowed, killed, logged} {
				d := call(uint32(nr), v, v, v, 1<<32+7, v, v)
				d.Ip = ip
				answers(t, want, x, l, d)
			}
		}
	}
}

// P14.1 to P14.3: scattered rules, and calls near to what they ask.
func TestScatteredRules(t *testing.T) {
	c := chance(147)
	for range 4000 {
		x := c.rules(6)
		holds(t, x, c.calls(25, x)...)
		if t.Failed() {
			return
		}
	}
	for range 150 {
		x := c.rules(mostRules)
		holds(t, x, c.calls(40, x)...)
	}
}

// P14.3: through how many instructions programs go, where all rules are asked up to their last conditions, and where all there
// are speak of the call: few, beside what conditions and rules add.
func TestThroughHowManyInstructions(t *testing.T) {
	c := chance(148)
	everywhere := make([]api.Rule, 0, mostRules)
	for from := 0; from < len(names); from += 15 {
		everywhere = append(everywhere, rule(allow(), strings.Join(names[from:from+15], " ")))
	}
	for _, x := range []api.Rules{rules(aLog()), rules(aLog(), everywhere...)} {
		l := compiled(t, x)
		for _, d := range append(everyNumber(), otherArchs(0)...) {
			follows(t, x, l, d)
		}
	}
	for conds := range mostConds + 1 {
		for n := 1; n <= mostRules; n++ {
			x := rules(aLog())
			for i := range n {
				r := rule(anAct(api.Errno_, i), "mmap")
				for k := range conds {
					op := one(&c, []int{api.Ge, api.Le})
					r.Conds = append(r.Conds, aCond(k%6, op, bits-1<<40-1<<8, 1<<32+1))
				}
				if conds > 0 {
					r.Conds[conds-1] = aCond(5, api.Ne, bits-1<<40-1<<8, 1<<32+1)
				}
				x.L = append(x.L, r)
			}
			v := uint64(1<<32 + 1)
			holds(t, x, call(9, v, v, v, v, v, v), call(9), call(8, v, v, v, v, v, v), call(10))
		}
	}
}

// P14.3: the same rules have the same program, whatever was compiled ahead of them.
func TestSameRulesSameProgram(t *testing.T) {
	c := chance(149)
	for range 300 {
		x, other := c.rules(one(&c, []int{3, 20})), c.rules(8)
		l, wrong := Compile(x)
		Compile(other)
		for range 3 {
			again, also := Compile(copied(x))
			if !slices.Equal(again, l) || also != wrong {
				t.Fatalf("%s: %v, %d, and %v, %d", brief(x), l, wrong, again, also)
			}
		}
	}
	wide := rules(aLog(), rule(aLog(), strings.Join(names[:15], " ")), rule(allow(), strings.Join(names[15:], " ")))
	l := compiled(t, wide)
	for range 200 {
		if again := compiled(t, wide); !slices.Equal(again, l) {
			t.Fatalf("%v and %v", l, again)
		}
	}
}

// R2: nil and empty lists of rules, names and conditions are the same.
func TestNilAndEmpty(t *testing.T) {
	if one, other := compiled(t, api.Rules{Default: aLog()}), compiled(t, rules(aLog(), []api.Rule{}...)); !slices.Equal(one, other) {
		t.Errorf("%v and %v", one, other)
	}
	var programs [][]api.Ins
	for _, conds := range [][]api.Cond{nil, {}} {
		for _, none := range [][]string{nil, {}} {
			refuses(t, wrongArg, rules(aLog(), api.Rule{Act: allow(), Names: none, Conds: conds}))
		}
		x := rules(aLog(), api.Rule{Act: allow(), Names: []string{"read"}, Conds: conds})
		programs = append(programs, compiled(t, x))
		follows(t, x, programs[0], call(0), call(1))
	}
	if !slices.Equal(programs[0], programs[1]) {
		t.Error(programs)
	}
}

// R3: rules stay as they are, what lies behind their lists too; a program is the caller's own.
func TestNothingIsChangedOrShared(t *testing.T) {
	c := chance(150)
	for range 500 {
		x := c.rules(5)
		before := copied(x)
		l, wrong := Compile(x)
		kept := slices.Clone(l)
		if !same(x, before) {
			t.Fatalf("%v was %v", x, before)
		}
		for i := range l[:cap(l)] {
			l[:cap(l)][i] = api.Ins{Code: 1, K: 1}
		}
		if again, also := Compile(x); !slices.Equal(again, kept) || also != wrong {
			t.Fatalf("%s: %v, and then %v", brief(x), kept, again)
		}
	}
	room := []string{"seccomp", "read", "write"}
	conds := []api.Cond{aCond(0, api.Eq, bits, 0), aCond(1, api.Eq, 1, 0)}
	l := []api.Rule{{Act: kill(), Names: room[:2], Conds: conds[:1]}, rule(aLog(), "read")}
	x := rules(aLog(), l[:1]...)
	follows(t, x, compiled(t, x), call(0), call(0, 1), call(317), call(1))
	if !slices.Equal(room, []string{"seccomp", "read", "write"}) || conds[1] != aCond(1, api.Eq, 1, 0) || l[1].Names[0] != "read" {
		t.Error("what lies behind a list was changed", room, conds, l)
	}
	l[0].Act, room[0], conds[0].Val = allow(), "write", 9
	follows(t, x, compiled(t, x), call(0), call(0, 9), call(317), call(1, 9))
}

// P0: no numbers and no texts make a panic: there is mean.Check's error, or a program of the rules.
func TestAnyRules(t *testing.T) {
	c := chance(151)
	some := func() int {
		return one(&c, []int{0, 1, 4, 5, 6, 7, -1, 65535, 65536, math.MaxInt, math.MinInt, c.below(10)})
	}
	told := map[api.Errno]int{}
	for range 10000 {
		x := c.rules(3)
		for range 1 + c.below(2) {
			r := rule(c.anAct(), one(&c, names), c.aCond())
			switch c.below(6) {
			case 0:
				r.Act = anAct(some(), some())
			case 1:
				r.Conds[0] = aCond(some(), some(), c.value(), c.value())
			case 2:
				r.Names = append(r.Names, one(&c, []string{"", "nope", "Read", "read", r.Names[0], "a b"}))
			case 3:
				x.Default = anAct(some(), some())
			}
			x.L = append(x.L, r)
		}
		want, _ := mean.Check(x)
		if told[want]++; want != 0 {
			refuses(t, want, x)
		} else {
			holds(t, x, c.calls(3, x)...)
		}
	}
	if told[0] < 1000 || told[wrongArg] < 1000 || told[wrongName] < 100 || told[wrongTwice] < 100 {
		t.Error(told)
	}
	refuses(t, wrongArg, rules(aLog(), many(1<<16, rule(aLog(), "read"))...))
	refuses(t, wrongArg, rules(aLog(), api.Rule{Act: aLog(), Names: many(1<<16, "read"), Conds: many(1<<16, aCond(0, 1, 1, 1))}))
}
