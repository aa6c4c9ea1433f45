package mean

import (
	"fmt"
	"maps"
	"math"
	"regexp"
	"slices"
	"strings"
	"testing"
	"unsafe"

	"fairlead/api"
	"fairlead/parse"
)

// The document's numbers, written out.
const (
	wrongArg   = 1
	wrongName  = 8
	wrongTwice = 9

	mostRules = 64
	mostNames = 16
	mostConds = 8

	arch = 0xC000003E
	bits = 1<<64 - 1
)

// theCalls are those of the document, as it has them.
const theCalls = "read 0, write 1, open 2, close 3, stat 4, fstat 5, lstat 6, poll 7, lseek 8, mmap 9, mprotect 10, " +
	"munmap 11, brk 12, ioctl 16, access 21, pipe 22, dup 32, getpid 39, socket 41, connect 42, fork 57, execve 59, exit 60, " +
	"wait4 61, kill 62, uname 63, mkdir 83, unlink 87, openat 257, seccomp 317"

// byName are the calls' numbers, by their names; inOrder are the names, as the document has them one behind the other.
var byName, inOrder = readCalls()

func readCalls() (map[string]uint32, []string) {
	numbers := map[string]uint32{}
	var names []string
	for _, pair := range strings.Split(theCalls, ", ") {
		var name string
		var nr uint32
		if n, err := fmt.Sscan(pair, &name, &nr); n != 2 || err != nil {
			panic(pair)
		}
		numbers[name] = nr
		names = append(names, name)
	}
	return numbers, names
}

// known are the calls' numbers, by their names, for whoever asks them and changes nothing.
func known() map[string]uint32 { return byName }

func knownNames() []string { return inOrder }

// strangers are words, and so may be shown, that are no call's name.
func strangers() []string {
	return []string{"nope", "a", "b", "z", "rea", "reads", "ead", "reed", "readwrite", "read_", "read0", "openat2", "opena", "wait",
		"wait3", "wait44", "errno", "log", "allow", "when", "and", "default", "arg0", "n0", "x_9"}
}

func anAct(kind, arg int) api.Act { return api.Act{Kind: kind, Arg: arg} }

func allow() api.Act { return anAct(api.Allow, 0) }

func aLog() api.Act { return anAct(api.Log, 0) }

func kill() api.Act { return anAct(api.Kill, 0) }

func rule(a api.Act, names string, conds ...api.Cond) api.Rule {
	return api.Rule{Act: a, Names: strings.Fields(names), Conds: conds}
}

func aCond(arg, op int, mask, val uint64) api.Cond {
	return api.Cond{Arg: arg, Op: op, Mask: mask, Val: val}
}

func rules(byDefault api.Act, l ...api.Rule) api.Rules { return api.Rules{Default: byDefault, L: l} }

// data is a call of the rules' architecture.
func data(nr uint32, args ...uint64) api.Data {
	d := api.Data{Nr: nr, Arch: arch}
	copy(d.Args[:], args)
	return d
}

// parsed are the rules of a text.
func parsed(t *testing.T, text string) api.Rules {
	t.Helper()
	x, wrong, at := parse.Parse(text)
	if wrong != 0 {
		t.Fatalf("%q: %d, %d", text, wrong, at)
	}
	return x
}

// many is a list of so many like things.
func many[T any](n int, x T) []T { return slices.Repeat([]T{x}, n) }

// same tells whether rules are alike, nil lists and empty ones alike too.
func same(x, y api.Rules) bool {
	return x.Default == y.Default && slices.EqualFunc(x.L, y.L, func(a, b api.Rule) bool {
		return a.Act == b.Act && slices.Equal(a.Names, b.Names) && slices.Equal(a.Conds, b.Conds)
	})
}

// copied are like rules that share nothing with them.
func copied(x api.Rules) api.Rules {
	x.L = slices.Clone(x.L)
	for i := range x.L {
		x.L[i].Names = slices.Clone(x.L[i].Names)
		x.L[i].Conds = slices.Clone(x.L[i].Conds)
	}
	return x
}

// brief are rules as a test tells them.
func brief(x api.Rules) string { return fmt.Sprintf("%.200q", fmt.Sprint(x)) }

// checks fails if Check does not tell this, or if Decide tells another error, or an act beside one.
func checks(t *testing.T, want api.Errno, place int, x api.Rules) {
	t.Helper()
	if wrong, at := Check(x); wrong != want || at != place {
		t.Errorf("%s: %d, %d: not %d, %d", brief(x), wrong, at, want, place)
	}
	for _, d := range []api.Data{data(0, 3), data(13), {}, {Nr: 1, Arch: arch + 1}} {
		a, wrong := Decide(x, d)
		if wrong != want || want != 0 && a != (api.Act{}) {
			t.Errorf("%s of %v: %v, %d: not %d", brief(x), d, a, wrong, want)
		}
	}
}

// decides fails if rules do not say this of a call.
func decides(t *testing.T, want api.Act, x api.Rules, d api.Data) {
	t.Helper()
	if a, wrong := Decide(x, d); a != want || wrong != 0 {
		t.Errorf("%s of %v: %v, %d: not %v", brief(x), d, a, wrong, want)
	}
}

// counts fails if the rules' numbers are not these.
func counts(t *testing.T, want []uint32, x api.Rules) {
	t.Helper()
	if l := Numbers(x); !slices.Equal(l, want) {
		t.Errorf("%s: %v, not %v", brief(x), l, want)
	}
}

// weighs fails if the rules' weight is another one.
func weighs(t *testing.T, want int, x api.Rules) {
	t.Helper()
	if n := Weight(x); n != want {
		t.Errorf("%s: %d, not %d", brief(x), n, want)
	}
}

var aWord = regexp.MustCompile(`\A[a-z][a-z0-9_]*\z`)

// slowRight follows the words of what may be shown, of the chapters 7, 8, 9 and 11.
func slowRight(x api.Rules) bool {
	if !slowAct(x.Default) || len(x.L) > mostRules {
		return false
	}
	for _, r := range x.L {
		if !slowAct(r.Act) || len(r.Names) == 0 || len(r.Names) > mostNames || len(r.Conds) > mostConds {
			return false
		}
		for _, name := range r.Names {
			if !aWord.MatchString(name) {
				return false
			}
		}
		for _, c := range r.Conds {
			if c.Arg < 0 || c.Arg > 5 || c.Op < 1 || c.Op > 6 {
				return false
			}
		}
	}
	return true
}

func numbered(kind int) bool { return kind == 3 || kind == 4 || kind == 6 }

func slowAct(a api.Act) bool {
	return a.Kind >= 1 && a.Kind <= 8 && (a.Arg == 0 || numbered(a.Kind) && a.Arg > 0 && a.Arg <= 65535)
}

// slowCheck follows the words of P12.2.
func slowCheck(x api.Rules) (api.Errno, int) {
	if !slowRight(x) {
		return wrongArg, -1
	}
	numbers := known()
	for i, r := range x.L {
		stand := map[string]int{}
		unknown, twice := false, false
		for _, name := range r.Names {
			if _, is := numbers[name]; !is {
				unknown = true
			}
			if stand[name]++; stand[name] == 2 {
				twice = true
			}
		}
		if unknown {
			return wrongName, i
		}
		if twice {
			return wrongTwice, i
		}
	}
	return 0, -1
}

// slowHolds follows the words of chapter 8, of a condition that may be.
func slowHolds(c api.Cond, d api.Data) bool {
	v := d.Args[c.Arg] & c.Mask
	return []bool{v == c.Val, v != c.Val, v < c.Val, v <= c.Val, v > c.Val, v >= c.Val}[c.Op-1]
}

// slowPlace is the place of the rule that decides a call of the rules' architecture, or -1.
func slowPlace(x api.Rules, d api.Data) int {
	numbers := known()
	for i, r := range x.L {
		speaks := false
		for _, name := range r.Names {
			if nr, is := numbers[name]; is && nr == d.Nr {
				speaks = true
			}
		}
		for _, c := range r.Conds {
			speaks = speaks && slowHolds(c, d)
		}
		if speaks {
			return i
		}
	}
	return -1
}

// slowDecide follows the words of P12.3.
func slowDecide(x api.Rules, d api.Data) (api.Act, api.Errno) {
	if wrong, _ := slowCheck(x); wrong != 0 {
		return api.Act{}, wrong
	}
	if d.Arch != arch {
		return anAct(1, 0), 0
	}
	if i := slowPlace(x, d); i >= 0 {
		return x.L[i].Act, 0
	}
	return x.Default, 0
}

// slowNumbers follows the words of P12.4: it goes through the known calls, which the document has from the least number on.
func slowNumbers(x api.Rules) []uint32 {
	var l []uint32
	for _, name := range knownNames() {
		if slices.ContainsFunc(x.L, func(r api.Rule) bool { return slices.Contains(r.Names, name) }) {
			l = append(l, known()[name])
		}
	}
	return l
}

// slowWeight counts by ones: for each name of a rule 8, and 8 for each condition.
func slowWeight(x api.Rules) int {
	weight := 8
	for _, r := range x.L {
		for range r.Names {
			weight += 8
			for range r.Conds {
				weight += 8
			}
		}
	}
	return weight
}

// follows fails if something that is told of rules is not as the words say; else it tells the error.
func follows(t *testing.T, x api.Rules, calls ...api.Data) api.Errno {
	t.Helper()
	want, place := slowCheck(x)
	if wrong, at := Check(x); wrong != want || at != place {
		t.Errorf("%s: %d, %d: not %d, %d", brief(x), wrong, at, want, place)
	}
	for _, d := range calls {
		a, wrong := Decide(x, d)
		if act, want := slowDecide(x, d); a != act || wrong != want {
			t.Errorf("%s of %v: %v, %d: not %v, %d", brief(x), d, a, wrong, act, want)
		}
	}
	counts(t, slowNumbers(x), x)
	weighs(t, slowWeight(x), x)
	return want
}

// chance is a row of numbers that look scattered, and are the same at each run of the tests.
type chance uint64

func (c *chance) below(n int) int {
	*c += 0x9e3779b97f4a7c15
	z := uint64(*c)
	z = (z ^ z>>30) * 0xbf58476d1ce4e5b9
	z = (z ^ z>>27) * 0x94d049bb133111eb
	return int((z ^ z>>31) % uint64(n))
}

func one[T any](c *chance, l []T) T { return l[c.below(len(l))] }

// small is a number as arguments and conditions have it in these tests: mostly one of few, so that conditions hold as often
// as not.
func (c *chance) small() uint64 {
	return one(c, []uint64{0, 1, 2, 3, 3, 4, 5, 7, 1 << 32, bits, bits - 1, uint64(c.below(16)), uint64(c.below(math.MaxInt))})
}

func (c *chance) anAct() api.Act {
	kind := 1 + c.below(8)
	if numbered(kind) {
		return anAct(kind, c.below(65536))
	}
	return anAct(kind, 0)
}

func (c *chance) aCond() api.Cond {
	return aCond(c.below(6), 1+c.below(6), one(c, []uint64{bits, bits, 3, 7, c.small()}), c.small())
}

// names are so many of the calls' own, of the first few, no two alike.
func (c *chance) names(n, few int) []string {
	l := knownNames()[:few]
	var names []string
	for range n {
		i := c.below(len(l))
		names = append(names, l[i])
		l = slices.Delete(slices.Clone(l), i, i+1)
	}
	return names
}

// rules are at most so many that mean something.
func (c *chance) rules(most int) api.Rules {
	x := rules(c.anAct())
	few := one(c, []int{mostNames, 20, len(knownNames())})
	for range c.below(most + 1) {
		r := api.Rule{Act: c.anAct(), Names: c.names(1+c.below(one(c, []int{1, 3, mostNames})), few)}
		for range c.below(one(c, []int{1, 2, 3, mostConds + 1})) {
			r.Conds = append(r.Conds, c.aCond())
		}
		x.L = append(x.L, r)
	}
	return x
}

// spoilt are rules of which some places are changed, most of them to what may not be.
func (c *chance) spoilt(x api.Rules) api.Rules {
	x = copied(x)
	for range 1 + c.below(3) {
		if len(x.L) == 0 || c.below(20) == 0 {
			x.Default = one(c, []api.Act{{}, anAct(9, 0), anAct(1, 1), anAct(4, 65536), anAct(3, -1), allow()})
			continue
		}
		r := &x.L[c.below(len(x.L))]
		switch c.below(12) {
		case 0:
			r.Act = one(c, []api.Act{{}, anAct(9, 0), anAct(1, 1), anAct(4, 65536), anAct(3, -1)})
		case 1:
			r.Conds = append(r.Conds, one(c, []api.Cond{{}, aCond(6, 1, 1, 1), aCond(-1, 1, 1, 1), aCond(0, 7, 1, 1), aCond(0, 1, 1, 1)}))
		case 2:
			r.Names = one(c, [][]string{nil, many(17, "read"), append(r.Names, "", "nope"), append(r.Names, "Read"), {"a b"}})
		case 3:
			x.L = append(x.L, many(c.below(2*mostRules), *r)...)
		case 4, 5, 6, 7:
			r.Names = slices.Insert(r.Names, c.below(len(r.Names)+1), one(c, strangers()))
		default:
			r.Names = slices.Insert(r.Names, c.below(len(r.Names)+1), one(c, append(slices.Clone(r.Names), "read")))
		}
	}
	return x
}

// data is a call of which the rules may speak, or of a number that is no call's.
func (c *chance) data() api.Data {
	nr := known()[one(c, knownNames()[:one(c, []int{3, 16, 20, 30})])]
	d := data(one(c, []uint32{nr, nr, nr, nr, nr, uint32(c.below(400)), nr + 1<<16, math.MaxUint32}))
	if c.below(12) == 0 {
		d.Arch = one(c, []uint32{0, arch - 1, arch ^ 1<<31, uint32(c.below(1 << 32))})
	}
	for i := range d.Args {
		d.Args[i] = c.small()
	}
	d.Ip = c.small()
	return d
}

// calls are so many.
func (c *chance) calls(n int) []api.Data {
	var l []api.Data
	for range n {
		l = append(l, c.data())
	}
	return l
}

// The numbers that api gives what stands in rules, the errors, the limits and the architecture.
func TestNumbersAreNamed(t *testing.T) {
	if api.OK != 0 || api.ErrArg != wrongArg || api.ErrName != wrongName || api.ErrTwice != wrongTwice {
		t.Error("errors")
	}
	if api.MaxRules != mostRules || api.MaxNames != mostNames || api.MaxConds != mostConds || api.Arch != arch {
		t.Error("limits")
	}
	if api.Kill != 1 || api.Thread != 2 || api.Trap != 3 || api.Errno_ != 4 || api.Notify != 5 || api.Trace != 6 ||
		api.Log != 7 || api.Allow != 8 {
		t.Error("kinds of acts")
	}
	if api.Eq != 1 || api.Ne != 2 || api.Lt != 3 || api.Le != 4 || api.Gt != 5 || api.Ge != 6 {
		t.Error("ops")
	}
}

// The chapter's examples, and those of the whole that are decided.
func TestExamples(t *testing.T) {
	x := parsed(t, "default kill; errno 1 read when arg0 == 3; allow read;")
	decides(t, anAct(api.Errno_, 1), x, data(0, 3))
	decides(t, allow(), x, data(0, 4))
	decides(t, kill(), x, data(1, 3))
	checks(t, wrongName, 0, parsed(t, "default log; log nope;"))
	checks(t, wrongName, 0, parsed(t, "default log; log a, a;"))
	checks(t, wrongTwice, 0, parsed(t, "default log; log read, read;"))

	x = parsed(t, "default kill; allow read, write; errno 13 open when arg1 & 3 != 0;")
	checks(t, 0, -1, x)
	decides(t, allow(), x, data(0))
	decides(t, allow(), x, data(1))
	decides(t, anAct(api.Errno_, 13), x, data(2, 0, 2))
	decides(t, kill(), x, data(2, 0, 4))
	decides(t, kill(), x, api.Data{Nr: 0})
	counts(t, []uint32{0, 1, 2}, x)
	weighs(t, 8+16+16, x)
	x = parsed(t, "default allow; log read;")
	decides(t, aLog(), x, data(0))
	decides(t, allow(), x, data(1))
	x = parsed(t, "default log; kill read when arg0 & 0xff00000000 == 0x100000000;")
	decides(t, kill(), x, data(0, 1<<32))
	decides(t, kill(), x, data(0, 1<<32+1<<40+7))
	decides(t, aLog(), x, data(0, 1))
	decides(t, aLog(), x, data(0, 3<<32))
}

// P12.1: every call's name and number, both ways.
func TestCalls(t *testing.T) {
	numbers := known()
	if len(numbers) != 30 {
		t.Fatal(len(numbers))
	}
	for name, nr := range numbers {
		if n, is := Nr(name); n != nr || !is {
			t.Errorf("%s: %d, %v: not %d", name, n, is, nr)
		}
		if s, is := Name(nr); s != name || !is {
			t.Errorf("%d: %q, %v: not %s", nr, s, is, name)
		}
	}
}

// P12.1, R1: names that are no call's, the empty one and those like a call's but for a letter, have the number 0 and false.
func TestNamesThatAreNotKnown(t *testing.T) {
	numbers := known()
	asked := 0
	unknown := func(name string) {
		t.Helper()
		if _, is := numbers[name]; is {
			return
		}
		asked++
		if n, is := Nr(name); n != 0 || is {
			t.Errorf("%q: %d, %v", name, n, is)
		}
	}
	for _, name := range append(strangers(), "", " ", "Read", "READ", "read ", " read", "read\x00", "\x00", "0", "read 0", "read,",
		"rеad", "read\xff", strings.Repeat("read", 10000), theCalls) {
		unknown(name)
	}
	for name := range numbers {
		unknown(name + name)
		unknown(strings.ToUpper(name))
		for i := range len(name) + 1 {
			for b := range 256 {
				unknown(name[:i] + string([]byte{byte(b)}) + name[i:])
				if i < len(name) {
					unknown(name[:i] + string([]byte{byte(b)}) + name[i+1:])
				}
			}
			unknown(name[:i])
			unknown(name[i:] + name[:i])
			if i < len(name) {
				unknown(name[:i] + name[i+1:])
			}
		}
		for other := range numbers {
			unknown(name + other)
			unknown(name + " " + other)
		}
	}
	if asked < 50000 {
		t.Error(asked)
	}
}

// P12.1, R1: numbers between and beyond the known ones, up to the greatest, have an empty text and false.
func TestNumbersThatAreNotKnown(t *testing.T) {
	names := map[uint32]string{}
	for name, nr := range known() {
		names[nr] = name
	}
	ask := func(nr uint32) {
		t.Helper()
		want, known := names[nr]
		if s, is := Name(nr); s != want || is != known {
			t.Errorf("%d: %q, %v: not %q", nr, s, is, want)
		}
	}
	for nr := range uint32(1 << 17) {
		ask(nr)
		ask(math.MaxUint32 - nr)
		ask(1<<31 - 1<<16 + nr)
	}
	for nr := range names {
		for bit := range 32 {
			ask(nr ^ 1<<bit)
			ask(nr + math.MaxUint32<<bit)
		}
		ask(-nr)
		ask(^nr)
	}
	for _, nr := range []uint32{13, 15, 17, 20, 23, 31, 33, 38, 40, 43, 56, 58, 64, 82, 84, 86, 88, 256, 258, 316, 318, 1 << 31,
		math.MaxUint32, math.MaxInt32} {
		if s, is := Name(nr); s != "" || is {
			t.Errorf("%d: %q, %v", nr, s, is)
		}
	}
}

// rulesThatMayNotBe are such as may not be shown, with names that are known, that are not, and that stand twice.
func rulesThatMayNotBe() []api.Rules {
	var l []api.Rules
	for _, names := range []string{"read", "nope", "read read", "nope nope", "read nope read"} {
		good := rule(aLog(), names)
		l = append(l, api.Rules{L: []api.Rule{good}}, rules(anAct(9, 0), good), rules(anAct(api.Kill, 1), good),
			rules(anAct(api.Errno_, 65536), good), rules(anAct(api.Trap, -1), good))
		faults := []api.Rule{{}, rule(aLog(), ""), rule(api.Act{}, names), rule(anAct(9, 0), names), rule(anAct(api.Log, 1), names),
			rule(aLog(), names, api.Cond{}), rule(aLog(), names, aCond(6, api.Eq, bits, 0)),
			rule(aLog(), names, aCond(-1, api.Eq, bits, 0)), rule(aLog(), names, aCond(0, 0, bits, 0)), rule(aLog(), names, aCond(0, 7, bits, 0)),
			rule(aLog(), names, many(mostConds+1, aCond(0, api.Eq, bits, 0))...),
			rule(aLog(), strings.Repeat("read ", mostNames+1)), rule(aLog(), strings.Join(knownNames()[:mostNames+1], " ")),
			rule(aLog(), "Read"), rule(aLog(), names+" Read"), rule(aLog(), "0 "+names), rule(aLog(), names+" _a"),
			{Act: aLog(), Names: []string{""}}, {Act: aLog(), Names: []string{"read", ""}}, {Act: aLog(), Names: []string{"read write"}}}
		for _, fault := range faults {
			l = append(l, rules(aLog(), fault), rules(aLog(), good, fault), rules(aLog(), fault, good), rules(aLog(), good, good, fault))
		}
		l = append(l, rules(aLog(), many(mostRules+1, good)...), rules(aLog(), many(1000, good)...))
	}
	return l
}

// P12.2: rules that may not be shown are ErrArg and -1, whatever names stand in them.
func TestRulesThatMayNotBe(t *testing.T) {
	checks(t, wrongArg, -1, api.Rules{})
	for _, x := range rulesThatMayNotBe() {
		checks(t, wrongArg, -1, x)
	}
}

// P12.2: no rules, and as many as there is room for.
func TestRulesThatMean(t *testing.T) {
	for kind := 1; kind <= 8; kind++ {
		checks(t, 0, -1, rules(anAct(kind, 0)))
	}
	checks(t, 0, -1, rules(aLog(), many(mostRules, rule(aLog(), "read"))...))
	full := rule(aLog(), strings.Join(knownNames()[:mostNames], " "), many(mostConds, aCond(5, api.Ge, 0, bits))...)
	checks(t, 0, -1, rules(aLog(), full))
	checks(t, 0, -1, rules(aLog(), many(mostRules, full)...))
	for i := range len(knownNames()) - mostNames {
		checks(t, 0, -1, rules(aLog(), rule(aLog(), strings.Join(knownNames()[i:i+mostNames], " "))))
	}
	checks(t, 0, -1, rules(aLog(), rule(kill(), "kill")))
}

// P12.2: a name that is not known, at every place of a rule and in every rule.
func TestNameFaults(t *testing.T) {
	for _, name := range strangers() {
		checks(t, wrongName, 0, rules(aLog(), rule(aLog(), name)))
		checks(t, wrongName, 1, rules(aLog(), rule(aLog(), "read"), rule(aLog(), name)))
		checks(t, wrongName, 0, rules(aLog(), rule(aLog(), name), rule(aLog(), "read")))
	}
	for at := range mostNames {
		names := slices.Clone(knownNames()[:mostNames])
		names[at] = "nope"
		checks(t, wrongName, 0, rules(aLog(), api.Rule{Act: aLog(), Names: names}))
	}
	for at := range mostRules {
		l := many(mostRules, rule(aLog(), "read write"))
		l[at] = rule(aLog(), "read nope")
		checks(t, wrongName, at, rules(aLog(), l...))
	}
}

// P12.2: a name that stands twice, at every two places of a rule, and in every rule; the same name may stand in two rules.
func TestTwiceFaults(t *testing.T) {
	for _, name := range knownNames() {
		checks(t, wrongTwice, 0, rules(aLog(), rule(aLog(), name+" "+name)))
		checks(t, 0, -1, rules(aLog(), rule(aLog(), name), rule(aLog(), name)))
		checks(t, 0, -1, rules(aLog(), rule(aLog(), name), rule(allow(), name, aCond(0, api.Eq, bits, 0)), rule(kill(), name)))
	}
	for second := range mostNames {
		for first := range second {
			names := slices.Clone(knownNames()[:mostNames])
			names[second] = names[first]
			checks(t, wrongTwice, 0, rules(aLog(), api.Rule{Act: aLog(), Names: names}))
			checks(t, wrongTwice, 0, rules(aLog(), api.Rule{Act: aLog(), Names: names[:second+1]}))
		}
	}
	checks(t, wrongTwice, 0, rules(aLog(), api.Rule{Act: aLog(), Names: many(mostNames, "read")}))
	for at := range mostRules {
		l := many(mostRules, rule(aLog(), "read write"))
		l[at] = rule(aLog(), "read write read")
		checks(t, wrongTwice, at, rules(aLog(), l...))
	}
	checks(t, 0, -1, rules(aLog(), rule(aLog(), "read write"), rule(aLog(), "write read"), rule(aLog(), "read write")))
}

// P12.2: within a rule ErrName is ahead of ErrTwice, in either order of the names; a name that is not known and stands twice.
func TestNameAheadOfTwice(t *testing.T) {
	for _, names := range []string{"nope read read", "read nope read", "read read nope", "nope nope", "read nope nope",
		"nope nope read read", "read read nope nope", "nope read nope read", "a b a b", "write read read open nope"} {
		checks(t, wrongName, 0, rules(aLog(), rule(aLog(), names)))
		checks(t, wrongName, 1, rules(aLog(), rule(aLog(), "read"), rule(aLog(), names)))
	}
}

// P12.2: of several faulty rules the first one is told, at place 0 and at a later one, whichever fault it has.
func TestFirstFaultyRule(t *testing.T) {
	good, unknown, twice := rule(aLog(), "read write"), rule(aLog(), "read nope"), rule(aLog(), "read read")
	both := rule(aLog(), "read read nope")
	wrong := map[string]api.Errno{"unknown": wrongName, "twice": wrongTwice, "both": wrongName}
	faults := map[string]api.Rule{"unknown": unknown, "twice": twice, "both": both}
	for one, first := range faults {
		for _, second := range faults {
			for ahead := range 4 {
				for between := range 3 {
					l := append(many(ahead, good), first)
					l = append(append(l, many(between, good)...), second, good)
					checks(t, wrong[one], ahead, rules(aLog(), l...))
				}
			}
			l := many(mostRules, second)
			l[0] = first
			checks(t, wrong[one], 0, rules(aLog(), l...))
		}
	}
	checks(t, wrongTwice, 1, rules(aLog(), good, twice, unknown))
	checks(t, wrongName, 1, rules(aLog(), good, unknown, twice))
	checks(t, wrongTwice, 0, rules(aLog(), twice, both))
}

// P12.3, R1: beside each of Check's errors there is no act, of no call, and of no architecture.
func TestNoActBesideErrors(t *testing.T) {
	wrong := map[api.Errno]api.Rules{
		wrongArg:   rules(aLog(), rule(allow(), "read"), rule(allow(), "")),
		wrongName:  rules(aLog(), rule(allow(), "read"), rule(allow(), "nope")),
		wrongTwice: rules(aLog(), rule(allow(), "read"), rule(allow(), "write write")),
	}
	for want, x := range wrong {
		for _, d := range []api.Data{data(0), data(1), data(13), data(math.MaxUint32), {}, {Arch: 1}, {Nr: 5, Arch: arch ^ 1}} {
			if a, e := Decide(x, d); a != (api.Act{}) || e != want {
				t.Errorf("%v of %v: %v, %d", x, d, a, e)
			}
		}
	}
}

// P12.3: of another architecture it is Kill, whatever the rules say.
func TestOtherArch(t *testing.T) {
	for _, x := range []api.Rules{rules(allow()), rules(aLog(), rule(allow(), "read")), rules(anAct(api.Errno_, 7),
		rule(anAct(api.Trap, 9), "read", aCond(0, api.Eq, bits, 0)), rule(aLog(), "read write"))} {
		for _, other := range []uint32{0, 1, arch - 1, arch + 1, 0x40000003, 0x3E, 0x3E << 24, math.MaxUint32, 1 << 31} {
			decides(t, kill(), x, api.Data{Arch: other})
			decides(t, kill(), x, api.Data{Nr: 1, Arch: other, Args: [6]uint64{1}})
		}
		for bit := range 32 {
			decides(t, kill(), x, api.Data{Arch: arch ^ 1<<bit})
		}
	}
	decides(t, allow(), rules(allow()), api.Data{Arch: arch})
}

// P12.3: a rule decides if all its conditions hold, and not if some or none do.
func TestConds(t *testing.T) {
	for n := range mostConds + 1 {
		for mask := range 1 << n {
			r := rule(anAct(api.Errno_, 5), "read")
			for i := range n {
				r.Conds = append(r.Conds, aCond(i%6, api.Eq, bits, uint64(10+i%6)))
				if mask>>i&1 == 0 {
					r.Conds[i].Val += 100
				}
			}
			want := aLog()
			if mask == 1<<n-1 {
				want = r.Act
			}
			d := data(0, 10, 11, 12, 13, 14, 15)
			decides(t, want, rules(aLog(), r), d)
			decides(t, want, rules(kill(), r, rule(aLog(), "read")), d)
			decides(t, kill(), rules(kill(), r, rule(aLog(), "read")), data(1, d.Args[:]...))
		}
	}
	signs := map[int][]bool{api.Eq: {false, true, false}, api.Ne: {true, false, true}, api.Lt: {true, false, false},
		api.Le: {true, true, false}, api.Gt: {false, false, true}, api.Ge: {false, true, true}}
	for op, holds := range signs {
		for arg := range 6 {
			for i, hold := range holds {
				want := map[bool]api.Act{true: allow(), false: kill()}[hold]
				d := data(0)
				d.Args[arg] = uint64(4 + i)
				decides(t, want, rules(kill(), rule(allow(), "read", aCond(arg, op, bits, 5))), d)
				d.Args[arg] |= 0xff00
				decides(t, want, rules(kill(), rule(allow(), "read", aCond(arg, op, 0xff, 5))), d)
			}
		}
	}
}

// P12.3: the first of several rules that speak of a call decides; one that does not hold is passed over.
func TestFirstRuleDecides(t *testing.T) {
	x := rules(kill(), rule(anAct(api.Errno_, 1), "write"), rule(anAct(api.Errno_, 2), "read", aCond(0, api.Eq, bits, 3)),
		rule(anAct(api.Errno_, 3), "open read"), rule(anAct(api.Errno_, 4), "read write"), rule(anAct(api.Errno_, 5), "close"))
	decides(t, anAct(api.Errno_, 2), x, data(0, 3))
	decides(t, anAct(api.Errno_, 3), x, data(0, 4))
	decides(t, anAct(api.Errno_, 1), x, data(1, 3))
	decides(t, anAct(api.Errno_, 3), x, data(2, 3))
	decides(t, anAct(api.Errno_, 5), x, data(3, 3))
	decides(t, kill(), x, data(4, 3))
	for first := range mostRules {
		l := many(mostRules, rule(kill(), "write", aCond(0, api.Ge, bits, 0)))
		for i := range l {
			l[i].Act = anAct(api.Trace, i)
			if i >= first {
				l[i].Names = []string{"read"}
			}
		}
		decides(t, anAct(api.Trace, first), rules(aLog(), l...), data(0))
		for i := range l {
			l[i] = rule(anAct(api.Trap, i), "read", aCond(0, api.Ge, bits, uint64(mostRules-i)))
		}
		decides(t, anAct(api.Trap, first), rules(aLog(), l...), data(0, uint64(mostRules-first)))
	}
	decides(t, aLog(), rules(aLog(), rule(allow(), "read", aCond(0, api.Eq, bits, 1))), data(0, 2))
}

// P12.3: a rule of several names decides the calls of its first, of its last and of each between; and no others.
func TestEveryNameOfARule(t *testing.T) {
	for i, name := range knownNames() {
		nr := known()[name]
		decides(t, allow(), rules(aLog(), rule(allow(), name)), data(nr))
		from := max(0, i-mostNames+1)
		ending := strings.Join(knownNames()[from:i+1], " ")
		starting := strings.Join(knownNames()[i:min(i+mostNames, len(knownNames()))], " ")
		decides(t, allow(), rules(aLog(), rule(allow(), ending)), data(nr))
		decides(t, allow(), rules(aLog(), rule(allow(), starting)), data(nr))
		for _, other := range append(knownNames(), "nope") {
			number, is := known()[other]
			if !is {
				number = 13
			}
			if other != name {
				decides(t, aLog(), rules(aLog(), rule(allow(), name)), data(number))
			}
		}
	}
	middle := rules(aLog(), rule(allow(), "write open read close stat"))
	for nr := range uint32(400) {
		want := aLog()
		if nr <= 4 {
			want = allow()
		}
		decides(t, want, middle, data(nr))
	}
}

// P12.3, P12.5: a call of which no rule speaks is decided by Default; so is one of a number that is no known call's.
func TestDefault(t *testing.T) {
	all := rules(api.Act{}, rule(aLog(), strings.Join(knownNames()[:15], " ")), rule(aLog(), strings.Join(knownNames()[15:], " ")))
	names := map[uint32]int{}
	for _, nr := range known() {
		names[nr]++
	}
	for kind := 1; kind <= 8; kind++ {
		a := anAct(kind, 0)
		if numbered(kind) {
			a.Arg = 65535
		}
		all.Default = a
		for nr := range uint32(1000) {
			decides(t, a, rules(a), data(nr, 1, 2))
			if names[nr] == 0 {
				decides(t, a, all, data(nr, 1, 2))
			} else {
				decides(t, aLog(), all, data(nr, 1, 2))
			}
		}
		for nr := range names {
			for bit := 9; bit < 32; bit++ {
				decides(t, a, all, data(nr|1<<bit))
			}
		}
		decides(t, a, all, data(math.MaxUint32))
		decides(t, a, rules(a, rule(aLog(), "write")), data(0))
	}
}

// P12.4: Numbers of no rules, of names that stand in several rules, of names out of order.
func TestNumbers(t *testing.T) {
	counts(t, nil, rules(aLog()))
	counts(t, []uint32{0}, rules(aLog(), rule(aLog(), "read")))
	counts(t, []uint32{0, 1}, rules(aLog(), rule(aLog(), "write read"), rule(aLog(), "write")))
	counts(t, []uint32{0, 1, 2, 62, 257, 317}, rules(aLog(), rule(aLog(), "seccomp write"), rule(kill(), "openat seccomp"),
		rule(allow(), "kill read open write", aCond(0, api.Eq, bits, 0))))
	whole := slices.Sorted(maps.Values(known()))
	turned := slices.Clone(knownNames())
	slices.Reverse(turned)
	counts(t, whole, rules(aLog(), rule(aLog(), strings.Join(turned[:15], " ")), rule(aLog(), strings.Join(turned[15:], " ")),
		rule(aLog(), strings.Join(knownNames()[3:19], " "))))
	for i, name := range knownNames() {
		for _, other := range knownNames()[:i] {
			l := []uint32{known()[name], known()[other]}
			slices.Sort(l)
			counts(t, l, rules(aLog(), rule(aLog(), name+" "+other)))
			counts(t, l, rules(aLog(), rule(aLog(), name), rule(aLog(), other), rule(aLog(), name)))
		}
	}
}

// P12.4: Numbers of names that are not known, and of rules that may not be, are those of the names that are.
func TestNumbersOfFaultyRules(t *testing.T) {
	counts(t, nil, api.Rules{})
	counts(t, nil, rules(aLog(), rule(aLog(), strings.Join(strangers(), " "))))
	counts(t, []uint32{1, 3}, rules(aLog(), rule(aLog(), "nope close a a"), rule(aLog(), "write nope")))
	counts(t, []uint32{1}, rules(aLog(), rule(aLog(), "write write")))
	counts(t, []uint32{0, 1}, api.Rules{L: []api.Rule{{}, {Names: []string{"write", "", "Read", "read"}}}})
	faulty := api.Rule{Act: anAct(-1, 5), Names: []string{"getpid"}, Conds: []api.Cond{{}}}
	counts(t, []uint32{39}, rules(anAct(9, 9), many(100, faulty)...))
	counts(t, []uint32{87}, rules(aLog(), api.Rule{Names: many(1000, "unlink")}))
	for _, x := range rulesThatMayNotBe() {
		counts(t, slowNumbers(x), x)
	}
}

// P12.4: Weight of no rules, of rules without conditions, of rules with several names and several conditions.
func TestWeight(t *testing.T) {
	weighs(t, 8, rules(aLog()))
	weighs(t, 8, api.Rules{})
	c := aCond(0, api.Eq, bits, 0)
	weighs(t, 16, rules(aLog(), rule(aLog(), "read")))
	weighs(t, 24, rules(aLog(), rule(aLog(), "read write")))
	weighs(t, 24, rules(aLog(), rule(aLog(), "read"), rule(aLog(), "read")))
	weighs(t, 24, rules(aLog(), rule(aLog(), "read", c)))
	weighs(t, 32, rules(aLog(), rule(aLog(), "read", c, c)))
	weighs(t, 8+3*(8*2+8), rules(aLog(), rule(aLog(), "read write open", c, c)))
	weighs(t, 8+3*(8*2+8)+8+2*16, rules(aLog(), rule(aLog(), "read write open", c, c), rule(kill(), "read"),
		rule(allow(), "a b", c)))
	for n := range mostNames + 3 {
		for k := range mostConds + 3 {
			r := api.Rule{Act: aLog(), Names: many(n, "read"), Conds: many(k, c)}
			weighs(t, 8+n*(8*k+8), rules(aLog(), r))
			weighs(t, 8+8+n*(8*k+8), rules(aLog(), rule(aLog(), "read"), r))
			weighs(t, 8+mostRules*n*(8*k+8), rules(aLog(), many(mostRules, r)...))
			weighs(t, 8+n*(8*k+8), api.Rules{L: []api.Rule{{Names: many(n, ""), Conds: many(k, api.Cond{})}}})
		}
	}
	weighs(t, 8+65536*(8*65536+8), rules(aLog(), api.Rule{Names: many(65536, "a"), Conds: many(65536, c)}))
	for _, x := range rulesThatMayNotBe() {
		weighs(t, slowWeight(x), x)
	}
}

// P12.1 to P12.4: scattered rules, by the document's words: such as mean something, and these with faults among them.
func TestScatteredRulesFollowTheWords(t *testing.T) {
	c := chance(12)
	told := map[api.Errno]int{}
	for range 10000 {
		x := c.rules(5)
		if follows(t, x, c.calls(8)...) != 0 {
			t.Fatalf("%v means something", x)
		}
		told[follows(t, c.spoilt(x), c.calls(3)...)]++
		if t.Failed() {
			return
		}
	}
	if told[0] < 300 || told[wrongArg] < 1000 || told[wrongName] < 1000 || told[wrongTwice] < 1000 {
		t.Error(told)
	}
	for range 100 {
		x := c.rules(mostRules + 4)
		follows(t, x, c.calls(20)...)
		follows(t, c.spoilt(x), c.calls(5)...)
	}
}

// P12.5: rules behind the one that decides do not matter: they may be taken away, and others added.
func TestTheoremOfRulesBehind(t *testing.T) {
	c := chance(121)
	decided := 0
	for range 10000 {
		x, d := c.rules(8), c.data()
		d.Arch = arch
		at := slowPlace(x, d)
		if at < 0 {
			decides(t, x.Default, x, d)
			continue
		}
		decided++
		want := x.L[at].Act
		decides(t, want, x, d)
		decides(t, want, rules(c.anAct(), x.L[:at+1]...), d)
		for end := at + 1; end <= len(x.L); end++ {
			decides(t, want, rules(x.Default, x.L[:end]...), d)
		}
		more := append(slices.Clone(x.L[:at+1]), c.rules(8).L...)
		decides(t, want, rules(c.anAct(), more...), d)
		if t.Failed() {
			return
		}
	}
	if decided < 2000 {
		t.Error(decided)
	}
}

// P12.5: a call of which no rule speaks is decided by Default, whatever the conditions are.
func TestTheoremOfDefault(t *testing.T) {
	c := chance(122)
	asked := 0
	for range 5000 {
		x, d := c.rules(4), c.data()
		d.Arch = arch
		if !slices.Contains(Numbers(x), d.Nr) {
			decides(t, x.Default, x, d)
			asked++
		}
	}
	if asked < 1000 {
		t.Error(asked)
	}
}

// P12.5: two rules of one act side by side, without conditions, are as one of the names of both, if none stands in both.
func TestTheoremOfRulesSideBySide(t *testing.T) {
	c := chance(123)
	for range 4000 {
		names := c.names(2+c.below(mostNames-1), 20)
		cut := 1 + c.below(len(names)-1)
		a := c.anAct()
		x, behind := c.rules(4), c.rules(4).L
		first, second := api.Rule{Act: a, Names: names[:cut]}, api.Rule{Act: a, Names: names[cut:]}
		two := rules(x.Default, append(slices.Clone(x.L), first, second)...)
		one := rules(x.Default, append(slices.Clone(x.L), api.Rule{Act: a, Names: names})...)
		two.L, one.L = append(two.L, behind...), append(one.L, behind...)
		checks(t, 0, -1, two)
		checks(t, 0, -1, one)
		for _, d := range append(c.calls(10), data(known()[names[0]]), data(known()[names[cut]])) {
			a, _ := Decide(two, d)
			decides(t, a, one, d)
		}
		counts(t, Numbers(two), one)
		weighs(t, Weight(two), one)
		if t.Failed() {
			return
		}
	}
	checks(t, wrongTwice, 0, rules(aLog(), rule(allow(), "read write open read")))
	checks(t, 0, -1, rules(aLog(), rule(allow(), "read write"), rule(allow(), "open read")))
}

// R2: nil and empty slices of rules, names and conditions are the same.
func TestNilAndEmpty(t *testing.T) {
	for _, l := range [][]api.Rule{nil, {}} {
		x := api.Rules{Default: allow(), L: l}
		checks(t, 0, -1, x)
		decides(t, allow(), x, data(0))
		counts(t, nil, x)
		weighs(t, 8, x)
	}
	for _, conds := range [][]api.Cond{nil, {}} {
		for _, names := range [][]string{nil, {}} {
			x := rules(aLog(), api.Rule{Act: allow(), Names: names, Conds: conds})
			checks(t, wrongArg, -1, x)
			counts(t, nil, x)
			weighs(t, 8, x)
		}
		x := rules(aLog(), api.Rule{Act: allow(), Names: []string{"read"}, Conds: conds})
		checks(t, 0, -1, x)
		decides(t, allow(), x, data(0))
		weighs(t, 16, x)
	}
}

// R3: what is handed in stays as it is; what is told is the caller's own.
func TestNothingIsChangedOrShared(t *testing.T) {
	c := chance(124)
	for range 3000 {
		x, d := c.rules(4), c.data()
		if c.below(3) == 0 {
			x = c.spoilt(x)
		}
		before, call := copied(x), d
		Check(x)
		Decide(x, d)
		l := Numbers(x)
		Weight(x)
		if !same(x, before) || d != call {
			t.Fatalf("%v was %v", x, before)
		}
		for i := range l {
			l[i] = 1000
		}
		counts(t, slowNumbers(x), x)
	}
	room := []string{"seccomp", "read", "write", "read"}
	conds := []api.Cond{aCond(0, api.Eq, bits, 0), aCond(1, api.Eq, 1, 0)}
	l := []api.Rule{{Act: kill(), Names: room[:2], Conds: conds[:1]}, rule(aLog(), "read")}
	x := rules(aLog(), l[:1]...)
	checks(t, 0, -1, x)
	decides(t, kill(), x, data(317))
	counts(t, []uint32{0, 317}, x)
	if !slices.Equal(room, []string{"seccomp", "read", "write", "read"}) || conds[1] != aCond(1, api.Eq, 1, 0) ||
		l[1].Names[0] != "read" {
		t.Error("what lies behind a list was changed", room, conds, l)
	}
	b := []byte("read")
	name := unsafe.String(&b[0], len(b))
	nr, _ := Nr(name)
	told, _ := Name(nr)
	b[0] = 'l'
	if told != "read" {
		t.Errorf("the name's own bytes were told: %q", told)
	}
}

// R4: what is answered hangs on nothing asked before, and not on the order of a map.
func TestNothingIsKept(t *testing.T) {
	c := chance(125)
	var l []api.Rules
	for range 20 {
		x := c.rules(4)
		l = append(l, x, c.spoilt(x))
	}
	calls := c.calls(10)
	for _, x := range l {
		for _, other := range l {
			follows(t, other, calls[:2]...)
			follows(t, x, calls...)
		}
	}
	wide := rules(aLog(), rule(aLog(), strings.Join(knownNames()[:15], " ")), rule(aLog(), strings.Join(knownNames()[15:], " ")))
	for range 200 {
		counts(t, slowNumbers(wide), wide)
	}
}

// P0: no numbers and no texts make a panic.
func TestAnyArguments(t *testing.T) {
	c := chance(1000)
	some := func() int {
		return one(&c, []int{0, 1, 4, 7, -1, 65535, 65536, math.MaxInt, math.MinInt, c.below(10), c.below(math.MaxInt)})
	}
	for range 20000 {
		x := rules(anAct(some(), some()))
		if c.below(4) > 0 {
			x.Default = c.anAct()
		}
		for range c.below(3) {
			r := rule(c.anAct(), one(&c, knownNames()), aCond(some(), some(), c.small(), c.small()))
			if c.below(4) == 0 {
				r.Act = anAct(some(), some())
			}
			if c.below(2) == 0 {
				r.Conds = nil
			}
			b := make([]byte, c.below(4))
			for i := range b {
				b[i] = byte(c.below(256))
			}
			r.Names = append(r.Names, string(b))[c.below(3)/2:]
			x.L = append(x.L, r)
		}
		follows(t, x, c.data(), api.Data{Nr: uint32(c.below(1 << 32)), Arch: uint32(c.below(1 << 32))})
		if t.Failed() {
			return
		}
	}
}
