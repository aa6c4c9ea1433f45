package show

import (
	"fmt"
	"math"
	"regexp"
	"slices"
	"strings"
	"testing"
	"unsafe"

	"fairlead/api"
	"fairlead/parse"
)

// The document's numbers, written out.
const (
	wrongArg  = 1
	wrongLong = 4

	mostRules = 64
	mostNames = 16
	mostConds = 8
	mostText  = 8192

	bits = 1<<64 - 1
)

// actWords are the words of acts, as their kinds rise from 1 on; those whose kinds are 3, 4 and 6 have a number.
func actWords() []string {
	return []string{"kill", "thread", "trap", "errno", "notify", "trace", "log", "allow"}
}

func numbered(kind int) bool { return kind == 3 || kind == 4 || kind == 6 }

// signs are those of conditions, as their ops rise from 1 on.
func signs() []string { return []string{"==", "!=", "<", "<=", ">", ">="} }

// words are names, those that stand for other things elsewhere among them.
func words() []string {
	return append(actWords(), "default", "when", "and", "arg0", "arg1", "arg5", "arg6", "arg", "a", "z", "read", "open",
		"x_9", "a0", "a_", "a__0_")
}

// noWords are texts that are no words.
func noWords() []string {
	return []string{"", "A", "Read", "rEad", "reaD", "0", "9a", "_", "_a", " ", " a", "a ", "a b", "a\n", "\na", "a\t", "a,", "a;",
		",", ";", "#", "a#", "#a", "a-b", "a.b", "a&b", "a=b", "==", "0x1", "13", "é", "aé", "éa", "\x00", "a\x00", "a\x80",
		"\xff", "a\xc3", "`", "a`", "{", "a{", "a/", "a:", "a@", "a[", "a^", "ａ", "a, b", "a when arg0 == 1", "default;",
		strings.Repeat("a", 9000) + "A"}
}

// actsThatMayNotBe are of kinds that are none, and have numbers where none may stand, and such as are too great or too small.
func actsThatMayNotBe() []api.Act {
	l := []api.Act{{}}
	for _, kind := range []int{0, -1, -4, 9, 10, 256 + 4, 65536 + 4, math.MaxInt32, math.MinInt32, math.MaxInt, math.MinInt} {
		for _, arg := range []int{0, 1, 13, 65535, 65536, -1} {
			l = append(l, anAct(kind, arg))
		}
	}
	for kind := 1; kind <= 8; kind++ {
		for _, arg := range []int{-1, -13, 65536, 65537, 65536 + 13, math.MaxInt32, math.MinInt32, math.MaxInt, math.MinInt} {
			l = append(l, anAct(kind, arg))
		}
		for _, arg := range []int{1, 13, 65535} {
			if !numbered(kind) {
				l = append(l, anAct(kind, arg))
			}
		}
	}
	return l
}

// condsThatMayNotBe are of arguments and ops that there are not.
func condsThatMayNotBe() []api.Cond {
	l := []api.Cond{{}}
	for _, arg := range []int{-1, -2, 6, 7, 256, 65536, math.MaxInt32, math.MinInt32, math.MaxInt, math.MinInt} {
		for op := 0; op <= 7; op++ {
			l = append(l, aCond(arg, op, bits, 5))
		}
	}
	for arg := range 6 {
		for _, op := range []int{0, -1, -6, 7, 8, 256 + 1, 65536 + 1, math.MaxInt32, math.MinInt32, math.MaxInt, math.MinInt} {
			l = append(l, aCond(arg, op, bits, 0), aCond(arg, op, 3, 1))
		}
	}
	return l
}

func anAct(kind, arg int) api.Act { return api.Act{Kind: kind, Arg: arg} }

func rule(a api.Act, names string, conds ...api.Cond) api.Rule {
	return api.Rule{Act: a, Names: strings.Fields(names), Conds: conds}
}

func aCond(arg, op int, mask, val uint64) api.Cond {
	return api.Cond{Arg: arg, Op: op, Mask: mask, Val: val}
}

func rules(byDefault api.Act, l ...api.Rule) api.Rules { return api.Rules{Default: byDefault, L: l} }

// many is a list of so many like things.
func many[T any](n int, x T) []T { return slices.Repeat([]T{x}, n) }

// same tells whether rules are alike, nil lists and empty ones alike too.
func same(x, y api.Rules) bool {
	return x.Default == y.Default && slices.EqualFunc(x.L, y.L, func(a, b api.Rule) bool {
		return a.Act == b.Act && slices.Equal(a.Names, b.Names) && slices.Equal(a.Conds, b.Conds)
	})
}

// copied are like rules that share nothing with them.
func copied(x api.Rules) api.Rules {
	x.L = slices.Clone(x.L)
	for i := range x.L {
		x.L[i].Names = slices.Clone(x.L[i].Names)
		x.L[i].Conds = slices.Clone(x.L[i].Conds)
	}
	return x
}

// brief are rules as a test tells them.
func brief(x api.Rules) string { return fmt.Sprintf("%.200q", fmt.Sprint(x)) }

// shows fails if rules are not shown as just this text.
func shows(t *testing.T, want string, x api.Rules) {
	t.Helper()
	if !Right(x) {
		t.Errorf("%s may be shown", brief(x))
	}
	if s, wrong := Text(x); s != want || wrong != 0 {
		t.Errorf("%s: %.200q, %d: not %.200q", brief(x), s, wrong, want)
	}
}

// mayNotBe fails if rules are shown, or if something is told beside the error.
func mayNotBe(t *testing.T, x api.Rules) {
	t.Helper()
	if Right(x) {
		t.Errorf("%s may not be shown", brief(x))
	}
	if s, wrong := Text(x); s != "" || wrong != wrongArg {
		t.Errorf("%s: %.200q, %d: not %d", brief(x), s, wrong, wrongArg)
	}
}

var aWord = regexp.MustCompile(`\A[a-z][a-z0-9_]*\z`)

// slowRight follows the words of what may be shown, of the chapters 7, 8, 9 and 11.
func slowRight(x api.Rules) bool {
	if !slowAct(x.Default) || len(x.L) > mostRules {
		return false
	}
	for _, r := range x.L {
		if !slowAct(r.Act) || len(r.Names) == 0 || len(r.Names) > mostNames || len(r.Conds) > mostConds {
			return false
		}
		for _, name := range r.Names {
			if !aWord.MatchString(name) {
				return false
			}
		}
		for _, c := range r.Conds {
			if c.Arg < 0 || c.Arg > 5 || c.Op < 1 || c.Op > 6 {
				return false
			}
		}
	}
	return true
}

func slowAct(a api.Act) bool {
	return a.Kind >= 1 && a.Kind <= 8 && (a.Arg == 0 || numbered(a.Kind) && a.Arg > 0 && a.Arg <= 65535)
}

// slowText is what rules that may be shown are shown as: all that stands in a line has a blank ahead of it, and those that
// may not be there are taken out.
func slowText(x api.Rules) string {
	text := "default" + slowActText(x.Default) + " ;\n"
	for _, r := range x.L {
		line := slowActText(r.Act)
		for i, name := range r.Names {
			line += [...]string{" ", " , "}[min(i, 1)] + name
		}
		for i, c := range r.Conds {
			line += [...]string{" when", " and"}[min(i, 1)] + fmt.Sprintf(" arg%d", c.Arg)
			if c.Mask < bits {
				line += fmt.Sprintf(" & %d", c.Mask)
			}
			line += fmt.Sprintf(" %s %d", signs()[c.Op-1], c.Val)
		}
		text += strings.TrimPrefix(line, " ") + " ;\n"
	}
	return strings.NewReplacer(" ,", ",", " ;", ";").Replace(text)
}

func slowActText(a api.Act) string {
	if numbered(a.Kind) {
		return fmt.Sprintf(" %s %d", actWords()[a.Kind-1], a.Arg)
	}
	return " " + actWords()[a.Kind-1]
}

// follows fails if rules are not shown as the words say; else it tells whether they may be shown.
func follows(t *testing.T, x api.Rules) bool {
	t.Helper()
	if slowRight(x) {
		shows(t, slowText(x), x)
		return true
	}
	mayNotBe(t, x)
	return false
}

// chance is a row of numbers that look scattered, and are the same at each run of the tests.
type chance uint64

func (c *chance) below(n int) int {
	*c += 0x9e3779b97f4a7c15
	z := uint64(*c)
	z = (z ^ z>>30) * 0xbf58476d1ce4e5b9
	z = (z ^ z>>27) * 0x94d049bb133111eb
	return int((z ^ z>>31) % uint64(n))
}

// number is one of 64 bits, that is as often small, or great, as between.
func (c *chance) number() uint64 {
	return []uint64{0, 1, 5, bits, bits - 1, 1 << 63, 1 << 32, 65535, 65536, uint64(c.below(1000)),
		uint64(c.below(math.MaxInt)) * 2}[c.below(11)]
}

func (c *chance) word() string { return words()[c.below(len(words()))] }

func (c *chance) anAct() api.Act {
	kind := 1 + c.below(8)
	if numbered(kind) {
		return anAct(kind, []int{0, 1, 13, 65535, c.below(65536)}[c.below(5)])
	}
	return anAct(kind, 0)
}

func (c *chance) aCond() api.Cond { return aCond(c.below(6), 1+c.below(6), c.number(), c.number()) }

// rules are at most so many that may be shown.
func (c *chance) rules(most int) api.Rules {
	x := rules(c.anAct())
	for range c.below(most + 1) {
		r := api.Rule{Act: c.anAct()}
		for range 1 + c.below([]int{1, 3, mostNames}[c.below(3)]) {
			r.Names = append(r.Names, c.word())
		}
		for range c.below([]int{1, 3, mostConds + 1}[c.below(3)]) {
			r.Conds = append(r.Conds, c.aCond())
		}
		x.L = append(x.L, r)
	}
	return x
}

// filled are rules with as many conditions as there is room for.
func (c *chance) filled(x api.Rules) api.Rules {
	for i := range x.L {
		for len(x.L[i].Conds) < mostConds {
			x.L[i].Conds = append(x.L[i].Conds, c.aCond())
		}
	}
	return x
}

// spoilt are rules of which some places are changed, most of them to what may not be.
func (c *chance) spoilt(x api.Rules) api.Rules {
	x = copied(x)
	if len(x.L) == 0 || c.below(8) == 0 {
		x.Default = actsThatMayNotBe()[c.below(len(actsThatMayNotBe()))]
		return x
	}
	r := &x.L[c.below(len(x.L))]
	switch c.below(6) {
	case 0:
		r.Act = actsThatMayNotBe()[c.below(len(actsThatMayNotBe()))]
	case 1:
		r.Names = slices.Insert(r.Names, c.below(len(r.Names)+1), noWords()[c.below(len(noWords()))])
	case 2:
		r.Names = many(c.below(2*mostNames), c.word())
	case 3:
		r.Conds = slices.Insert(r.Conds, c.below(len(r.Conds)+1), condsThatMayNotBe()[c.below(len(condsThatMayNotBe()))])
	case 4:
		r.Conds = many(c.below(2*mostConds), c.aCond())
	case 5:
		x.L = append(x.L, many(c.below(2*mostRules), *r)...)
	}
	return x
}

// P11.1: the numbers that api gives what stands in rules, the error and the limits.
func TestNumbersAreNamed(t *testing.T) {
	if api.OK != 0 || api.ErrArg != wrongArg || api.ErrLong != wrongLong {
		t.Error("errors")
	}
	if api.MaxRules != mostRules || api.MaxNames != mostNames || api.MaxConds != mostConds || api.MaxText != mostText {
		t.Error("limits")
	}
	if api.Kill != 1 || api.Thread != 2 || api.Trap != 3 || api.Errno_ != 4 || api.Notify != 5 || api.Trace != 6 ||
		api.Log != 7 || api.Allow != 8 {
		t.Error("kinds of acts")
	}
	if api.Eq != 1 || api.Ne != 2 || api.Lt != 3 || api.Le != 4 || api.Gt != 5 || api.Ge != 6 {
		t.Error("ops")
	}
}

// P11.1: the chapter's examples, and rules of those of the whole.
func TestExamples(t *testing.T) {
	shows(t, "default kill;\nerrno 13 open when arg1 & 3 != 0;\n", rules(anAct(api.Kill, 0),
		rule(anAct(api.Errno_, 13), "open", aCond(1, api.Ne, 3, 0))))
	shows(t, "default trap 0;\n", rules(anAct(api.Trap, 0)))
	shows(t, "default kill;\nallow read, write;\nerrno 13 open when arg1 & 3 != 0;\n", rules(anAct(api.Kill, 0),
		rule(anAct(api.Allow, 0), "read write"), rule(anAct(api.Errno_, 13), "open", aCond(1, api.Ne, 3, 0))))
	shows(t, "default allow;\nlog read;\n", rules(anAct(api.Allow, 0), rule(anAct(api.Log, 0), "read")))
	shows(t, "default log;\nkill a when arg0 & 1095216660480 == 4294967296;\n", rules(anAct(api.Log, 0),
		rule(anAct(api.Kill, 0), "a", aCond(0, api.Eq, 0xff00000000, 0x100000000))))
}

// P11.1: each word of an act, as the default's and a rule's, with its number if it has one, 0 too.
func TestActs(t *testing.T) {
	for text, a := range map[string]api.Act{"kill": anAct(api.Kill, 0), "thread": anAct(api.Thread, 0),
		"notify": anAct(api.Notify, 0), "log": anAct(api.Log, 0), "allow": anAct(api.Allow, 0),
		"trap 0": anAct(api.Trap, 0), "trap 1": anAct(api.Trap, 1), "trap 65535": anAct(api.Trap, 65535),
		"errno 0": anAct(api.Errno_, 0), "errno 13": anAct(api.Errno_, 13),
		"errno 65534": anAct(api.Errno_, 65534), "errno 65535": anAct(api.Errno_, 65535),
		"trace 0": anAct(api.Trace, 0), "trace 10": anAct(api.Trace, 10), "trace 65535": anAct(api.Trace, 65535)} {
		shows(t, "default "+text+";\n", rules(a))
		shows(t, "default log;\n"+text+" read;\n", rules(anAct(api.Log, 0), rule(a, "read")))
		shows(t, "default "+text+";\n"+text+" a, b when arg2 < 7;\n"+text+" kill;\n", rules(a,
			rule(a, "a b", aCond(2, api.Lt, bits, 7)), rule(a, "kill")))
	}
	for kind := 1; kind <= 8; kind++ {
		for arg := -3; arg <= 70000; arg += 1 + max(0, arg)%97 {
			follows(t, rules(anAct(kind, arg)))
			follows(t, rules(anAct(api.Log, 0), rule(anAct(kind, arg), "a")))
		}
	}
}

// P11.1: a Default or a rule's Act that may not be, wherever the rule stands.
func TestActsThatMayNotBe(t *testing.T) {
	log, right := anAct(api.Log, 0), rule(anAct(api.Kill, 0), "a", aCond(0, api.Eq, bits, 0))
	for _, a := range actsThatMayNotBe() {
		mayNotBe(t, rules(a))
		mayNotBe(t, rules(a, right))
		mayNotBe(t, rules(a, many(mostRules, right)...))
		mayNotBe(t, rules(log, rule(a, "read")))
		for _, at := range []int{0, 1, 31, 62, 63} {
			l := many(mostRules, right)
			l[at].Act = a
			mayNotBe(t, rules(log, l...))
		}
	}
	mayNotBe(t, api.Rules{})
}

// P11.1: no rules, 64 and 65; each has a line of its own, in order.
func TestHowManyRules(t *testing.T) {
	log := anAct(api.Log, 0)
	for _, n := range []int{0, 1, 2, 63, mostRules} {
		var l []api.Rule
		text := "default log;\n"
		for i := range n {
			l = append(l, rule(anAct(api.Errno_, i), fmt.Sprint("r", i), aCond(i%6, 1+i%6, uint64(i), uint64(2*i))))
			text += fmt.Sprintf("errno %d r%d when arg%d & %d %s %d;\n", i, i, i%6, i, signs()[i%6], 2*i)
		}
		shows(t, text, rules(log, l...))
	}
	for _, n := range []int{mostRules + 1, mostRules + 2, 2 * mostRules, 255, 256, 257, 65536, 65536 + mostRules} {
		mayNotBe(t, rules(log, many(n, rule(anAct(api.Kill, 0), "a"))...))
	}
}

// P11.1: rules without a name, of 1 and of 16, and of 17.
func TestHowManyNames(t *testing.T) {
	log, allow := anAct(api.Log, 0), anAct(api.Allow, 0)
	for n := 1; n <= mostNames; n++ {
		var names []string
		for i := range n {
			names = append(names, fmt.Sprint("n", i))
		}
		text := strings.Join(names, ", ")
		shows(t, "default log;\nallow "+text+";\n", rules(log, api.Rule{Act: allow, Names: names}))
		shows(t, "default log;\nallow a;\nallow "+text+" when arg0 == 0;\nallow "+text+";\n", rules(log, rule(allow, "a"),
			api.Rule{Act: allow, Names: names, Conds: many(1, aCond(0, api.Eq, bits, 0))}, api.Rule{Act: allow, Names: names}))
	}
	for _, n := range []int{0, mostNames + 1, mostNames + 2, 2 * mostNames, 255, 256, 257, 256 + mostNames, 65536,
		65536 + mostNames} {
		wrong := api.Rule{Act: allow, Names: many(n, "a")}
		mayNotBe(t, rules(log, wrong))
		mayNotBe(t, rules(log, rule(allow, "a"), wrong))
		mayNotBe(t, rules(log, wrong, rule(allow, "a")))
		wrong.Conds = many(1, aCond(0, api.Eq, bits, 0))
		mayNotBe(t, rules(log, wrong))
	}
	shows(t, "default log;\nallow a, a, b, a;\n", rules(log, rule(allow, "a a b a")))
}

// P11.1: names that are no words, at every place; no byte more than those of words may stand in one.
func TestNamesThatAreNoWords(t *testing.T) {
	log, allow := anAct(api.Log, 0), anAct(api.Allow, 0)
	for _, name := range noWords() {
		for _, n := range []int{1, 2, 3, mostNames} {
			for at := range n {
				names := many(n, "a")
				names[at] = name
				mayNotBe(t, rules(log, api.Rule{Act: allow, Names: names}))
				mayNotBe(t, rules(log, rule(allow, "b"), api.Rule{Act: allow, Names: names}, rule(allow, "c")))
			}
		}
	}
	for b := range 256 {
		for _, name := range []string{string([]byte{byte(b)}), string([]byte{'a', byte(b)}), string([]byte{'a', byte(b), 'z'}),
			string([]byte{byte(b), 'a'})} {
			follows(t, rules(log, api.Rule{Act: allow, Names: []string{name}}))
		}
	}
}

// P11.1: names that are also words of acts, when, and, default or arg0 are shown as they are.
func TestNamesLikeOtherWords(t *testing.T) {
	log, allow := anAct(api.Log, 0), anAct(api.Allow, 0)
	for _, name := range words() {
		for _, other := range words() {
			shows(t, "default log;\nallow "+name+", "+other+" when arg0 == 1;\nerrno 7 "+other+";\n", rules(log,
				rule(allow, name+" "+other, aCond(0, api.Eq, bits, 1)), rule(anAct(api.Errno_, 7), other)))
		}
	}
	long := strings.Repeat("a_0", 100000)
	shows(t, "default log;\nallow "+long+", "+long+";\n", rules(log, rule(allow, long+" "+long)))
}

// P11.1: no conditions, 8 and 9.
func TestHowManyConds(t *testing.T) {
	log, allow := anAct(api.Log, 0), anAct(api.Allow, 0)
	for n := range mostConds + 1 {
		r := rule(allow, "a")
		text := "allow a"
		for i := range n {
			r.Conds = append(r.Conds, aCond(i%6, 1+i%6, bits, uint64(i)))
			text += fmt.Sprintf(" %s arg%d %s %d", [...]string{"when", "and"}[min(i, 1)], i%6, signs()[i%6], i)
		}
		shows(t, "default log;\n"+text+";\n", rules(log, r))
		shows(t, "default log;\n"+text+";\nallow b;\n"+text+";\n", rules(log, r, rule(allow, "b"), r))
	}
	for _, n := range []int{mostConds + 1, mostConds + 2, 2 * mostConds, 255, 256, 256 + mostConds, 65536, 65536 + mostConds} {
		wrong := rule(allow, "a", many(n, aCond(0, api.Eq, bits, 0))...)
		mayNotBe(t, rules(log, wrong))
		mayNotBe(t, rules(log, rule(allow, "a"), wrong, rule(allow, "b")))
	}
}

// P11.1: conditions that may not be, at every place.
func TestCondsThatMayNotBe(t *testing.T) {
	log, allow := anAct(api.Log, 0), anAct(api.Allow, 0)
	for _, c := range condsThatMayNotBe() {
		for n := 1; n <= mostConds; n++ {
			for at := range n {
				l := many(n, aCond(0, api.Eq, bits, 0))
				l[at] = c
				mayNotBe(t, rules(log, rule(allow, "a", l...)))
				mayNotBe(t, rules(log, rule(allow, "b"), rule(allow, "a", l...), rule(allow, "c")))
			}
		}
	}
}

// P11.1: of a condition each argument, each sign, masks and values at their edges, written out.
func TestConds(t *testing.T) {
	of := func(c api.Cond) api.Rules { return rules(anAct(api.Log, 0), rule(anAct(api.Kill, 0), "a", c)) }
	const ahead = "default log;\nkill a when "
	for arg, text := range []string{"arg0", "arg1", "arg2", "arg3", "arg4", "arg5"} {
		shows(t, ahead+text+" == 7;\n", of(aCond(arg, api.Eq, bits, 7)))
		shows(t, ahead+text+" & 7 == 7;\n", of(aCond(arg, api.Eq, 7, 7)))
	}
	for op, text := range map[int]string{api.Eq: "==", api.Ne: "!=", api.Lt: "<", api.Le: "<=", api.Gt: ">", api.Ge: ">="} {
		shows(t, ahead+"arg3 "+text+" 7;\n", of(aCond(3, op, bits, 7)))
		shows(t, ahead+"arg3 & 5 "+text+" 7;\n", of(aCond(3, op, 5, 7)))
	}
	numbers := map[uint64]string{0: "0", 1: "1", 9: "9", 10: "10", 0xff: "255", 1<<31 - 1: "2147483647", 1 << 31: "2147483648",
		1<<32 - 1: "4294967295", 1 << 32: "4294967296", 1<<63 - 1: "9223372036854775807", 1 << 63: "9223372036854775808",
		1<<63 + 1: "9223372036854775809", bits - 1: "18446744073709551614"}
	for n, text := range numbers {
		shows(t, ahead+"arg0 & "+text+" < 3;\n", of(aCond(0, api.Lt, n, 3)))
		shows(t, ahead+"arg0 < "+text+";\n", of(aCond(0, api.Lt, bits, n)))
		shows(t, ahead+"arg0 & "+text+" < "+text+";\n", of(aCond(0, api.Lt, n, n)))
		shows(t, ahead+"arg0 & "+text+" < 18446744073709551615;\n", of(aCond(0, api.Lt, n, bits)))
	}
	shows(t, ahead+"arg0 < 18446744073709551615;\n", of(aCond(0, api.Lt, bits, bits)))
	shows(t, ahead+"arg0 & 0 == 0;\n", of(aCond(0, api.Eq, 0, 0)))
	for bit := range 64 {
		for arg := range 6 {
			for op := 1; op <= 6; op++ {
				follows(t, of(aCond(arg, op, 1<<bit, bits-1<<bit)))
				follows(t, of(aCond(arg, op, bits-1<<bit, 1<<bit)))
			}
		}
	}
}

// P11.1: whole texts, byte for byte: a blank behind each , and no other place without one but ahead of , and ;.
func TestBlanks(t *testing.T) {
	shows(t, "default errno 1;\n"+
		"trap 0 a, b, c when arg0 & 1 == 2 and arg1 != 3 and arg2 & 4 < 5 and arg3 <= 6 and arg4 & 7 > 8 and arg5 >= 9;\n"+
		"thread d, e;\n"+
		"notify f when arg0 == 0;\n"+
		"trace 65535 g, h when arg0 & 18446744073709551614 >= 0;\n",
		rules(anAct(api.Errno_, 1),
			rule(anAct(api.Trap, 0), "a b c", aCond(0, api.Eq, 1, 2), aCond(1, api.Ne, bits, 3), aCond(2, api.Lt, 4, 5),
				aCond(3, api.Le, bits, 6), aCond(4, api.Gt, 7, 8), aCond(5, api.Ge, bits, 9)),
			rule(anAct(api.Thread, 0), "d e"),
			rule(anAct(api.Notify, 0), "f", aCond(0, api.Eq, bits, 0)),
			rule(anAct(api.Trace, 65535), "g h", aCond(0, api.Ge, bits-1, 0))))
}

// P11.1: of all that is shown, how its lines are made: as many as there are rules, and one; each ended by ; and the byte 10.
func TestLines(t *testing.T) {
	c := chance(11)
	blank := regexp.MustCompile("  |^ | $| ,| ;|,[^ ]|\t|\r|;.")
	for range 3000 {
		x := c.rules(6)
		text, _ := Text(x)
		lines := strings.SplitAfter(text, "\n")
		if len(lines) != len(x.L)+2 || lines[len(lines)-1] != "" || !strings.HasPrefix(text, "default ") {
			t.Fatalf("%q of %v", text, x)
		}
		for _, line := range lines[:len(lines)-1] {
			if !strings.HasSuffix(line, ";\n") || strings.Count(line, ";") != 1 || blank.MatchString(strings.TrimSuffix(line, "\n")) {
				t.Fatalf("%q of %v", line, x)
			}
		}
	}
}

// P11.1, R1: beside ErrArg there is no text, whatever could have been shown ahead of what may not be.
func TestNothingBesideErrors(t *testing.T) {
	l := many(mostRules, rule(anAct(api.Kill, 0), "a b", aCond(0, api.Eq, bits, 0)))
	l[mostRules-1].Conds = []api.Cond{aCond(0, api.Eq, bits, 0), aCond(6, api.Eq, bits, 0)}
	mayNotBe(t, rules(anAct(api.Log, 0), l...))
	l[mostRules-1].Conds = nil
	l[mostRules-1].Names = []string{"a", "b", ""}
	mayNotBe(t, rules(anAct(api.Log, 0), l...))
	l[mostRules-1] = api.Rule{}
	mayNotBe(t, rules(anAct(api.Log, 0), l...))
	mayNotBe(t, rules(anAct(api.Log, 0), append(l, l...)...))
}

// R2: nil and empty slices of rules, names and conditions are the same.
func TestNilAndEmpty(t *testing.T) {
	log, allow := anAct(api.Log, 0), anAct(api.Allow, 0)
	shows(t, "default log;\n", api.Rules{Default: log})
	shows(t, "default log;\n", api.Rules{Default: log, L: []api.Rule{}})
	for _, names := range [][]string{nil, {}} {
		for _, conds := range [][]api.Cond{nil, {}} {
			mayNotBe(t, rules(log, api.Rule{Act: allow, Names: names, Conds: conds}))
			shows(t, "default log;\nallow a;\n", rules(log, api.Rule{Act: allow, Names: []string{"a"}, Conds: conds}))
		}
		mayNotBe(t, rules(log, api.Rule{Act: allow, Names: names, Conds: many(1, aCond(0, api.Eq, bits, 0))}))
	}
}

// P11.1: scattered rules, by the document's words: such as may be shown, and these with what may not be among them.
func TestScatteredRulesFollowTheWords(t *testing.T) {
	c := chance(111)
	right := 0
	for range 10000 {
		x := c.rules(4)
		if !follows(t, x) {
			t.Fatalf("%v may be shown", x)
		}
		if follows(t, c.spoilt(x)) {
			right++
		}
		if t.Failed() {
			return
		}
	}
	if right < 500 || right > 9500 {
		t.Error(right)
	}
	for range 200 {
		follows(t, c.rules(mostRules+4))
	}
}

// P0: no numbers and no texts make a panic.
func TestAnyRules(t *testing.T) {
	c := chance(1000)
	some := func() int {
		return []int{0, 1, 4, 7, -1, 65535, 65536, math.MaxInt, math.MinInt, c.below(10), c.below(math.MaxInt)}[c.below(11)]
	}
	for range 20000 {
		x := rules(anAct(some(), some()))
		if c.below(4) > 0 {
			x.Default = c.anAct()
		}
		for range c.below(3) {
			r := rule(c.anAct(), "a", aCond(some(), some(), c.number(), c.number()))
			if c.below(4) == 0 {
				r.Act = anAct(some(), some())
			}
			b := make([]byte, c.below(4))
			for i := range b {
				b[i] = byte(c.below(256))
			}
			r.Names = append(r.Names, string(b))[c.below(3)/2:]
			x.L = append(x.L, r)
		}
		follows(t, x)
	}
}

// parsesBack fails if rules, shown and parsed, are not as they were; rules whose text is too long for that must be told so.
func parsesBack(t *testing.T, x api.Rules) (text string) {
	t.Helper()
	text, wrong := Text(x)
	if wrong != 0 || !Right(x) {
		t.Fatalf("%s may be shown: %d", brief(x), wrong)
	}
	again, wrong, at := parse.Parse(text)
	if len(text) > mostText {
		if wrong != wrongLong || at != 0 {
			t.Fatalf("%d bytes: %d, %d", len(text), wrong, at)
		}
		return text
	}
	if wrong != 0 || at != -1 || !same(again, x) {
		t.Fatalf("%.200q: %s, %d, %d: not %s", text, brief(again), wrong, at, brief(x))
	}
	return text
}

// P11.2: what is shown is parsed as it was.
func TestTheoremOfShownRules(t *testing.T) {
	c := chance(112)
	short, long := 0, 0
	for i := range 20000 {
		x := c.rules(4)
		if i%50 == 0 {
			x = c.filled(c.rules(mostRules))
		}
		if len(parsesBack(t, x)) <= mostText {
			short++
		} else {
			long++
		}
	}
	if short < 19700 || long < 20 {
		t.Error(short, long)
	}
	log, one := anAct(api.Log, 0), aCond(0, api.Eq, bits, 1)
	parsesBack(t, rules(log))
	parsesBack(t, rules(log, many(mostRules, rule(anAct(api.Kill, 0), "a"))...))
	parsesBack(t, rules(log, api.Rule{Act: log, Names: many(mostNames, "when"), Conds: many(mostConds, one)}))
	for _, name := range words() {
		for _, a := range []api.Act{anAct(api.Allow, 0), anAct(api.Trap, 0), anAct(api.Errno_, 65535)} {
			parsesBack(t, rules(a, rule(a, name), rule(a, name+" "+name, one), rule(a, "when "+name+" and", one, one)))
		}
	}
	for _, mask := range []uint64{0, 1, bits - 1, bits} {
		for _, val := range []uint64{0, 1, bits - 1, bits} {
			for op := 1; op <= 6; op++ {
				parsesBack(t, rules(log, rule(log, "a", aCond(5, op, mask, val), aCond(0, op, val, mask))))
			}
		}
	}
}

// P11.2: rules that are shown in 8192 bytes are parsed as they were; in more they are shown still.
func TestTextsOfAllRoom(t *testing.T) {
	of := func(size int) api.Rules {
		const ahead = "default log;\nallow ;\n"
		return rules(anAct(api.Log, 0), rule(anAct(api.Allow, 0), strings.Repeat("a", size-len(ahead))))
	}
	for _, size := range []int{22, 23, mostText - 1, mostText, mostText + 1, mostText + 2, 2 * mostText, 1 << 20} {
		if text := parsesBack(t, of(size)); len(text) != size {
			t.Errorf("%d bytes, not %d", len(text), size)
		}
		follows(t, of(size))
	}
	full := rules(anAct(api.Trap, 65535))
	for i := range mostRules {
		r := api.Rule{Act: anAct(api.Errno_, 65535), Conds: many(mostConds, aCond(5, api.Ge, bits-1, bits))}
		for j := range mostNames {
			r.Names = append(r.Names, fmt.Sprintf("name_%d_%d", i, j))
		}
		full.L = append(full.L, r)
	}
	follows(t, full)
	if text := parsesBack(t, full); len(text) <= mostText {
		t.Error(len(text))
	}
	few := rules(full.Default, full.L[:12]...)
	size := len(parsesBack(t, few))
	few.L = append(few.L, rule(anAct(api.Kill, 0), strings.Repeat("z", mostText-size-len("kill ;\n"))))
	if text := parsesBack(t, few); len(text) != mostText {
		t.Error(size, len(text))
	}
	few.L[12].Names[0] += "z"
	if text := parsesBack(t, few); len(text) != mostText+1 {
		t.Error(len(text))
	}
}

// P11.2: what is parsed may be shown, and is parsed again as it was, if there is room for what is shown: a text may have
// fewer blanks and shorter numbers than the one that it is shown as.
func TestTheoremOfParsedTexts(t *testing.T) {
	texts := []string{
		"default kill;", "default\terrno\n13 ; # note; more\n", "default trap 0x0;", "default trace 0xffff;",
		"default kill; allow read, write; errno 13 open when arg1 & 3 != 0;",
		"default kill;allow read,write;errno 0xd open when arg1&0x3!=0x0;",
		"default log; kill a when arg0 & 18446744073709551615 == 1 and arg0 & 0xffffffffffffffff == 1 and arg0 == 1;",
		"default log; kill a when arg5&0xfffffffffffffffe>=0x8000000000000000 and arg0&0<0;",
		"default log; allow when, and, default, arg0, kill when arg0 < 1 and arg0 <= 1 and arg0 > 1 and arg0 >= 1;",
		"default log;" + strings.Repeat("kill a;", mostRules),
		"default log; kill a" + strings.Repeat(",a", mostNames-1) + " when arg0==1" + strings.Repeat(" and arg0==1", mostConds-1) + ";",
		"default log; kill " + strings.Repeat("a", 8000) + ";",
	}
	for _, text := range texts {
		x, wrong, _ := parse.Parse(text)
		if wrong != 0 {
			t.Fatalf("%q: %d", text, wrong)
		}
		shown := parsesBack(t, x)
		if len(shown) > mostText {
			t.Errorf("%q: %d bytes", text, len(shown))
		}
		again, _, _ := parse.Parse(shown)
		if twice := parsesBack(t, again); twice != shown {
			t.Errorf("%q: shown again: %q", shown, twice)
		}
	}

	rule := "log " + strings.Repeat("a,", mostNames-1) + "a when arg0&0>1" + strings.Repeat(" and arg0&0>1", 6) + ";"
	tight := "default log;" + strings.Repeat(rule, mostRules-1)
	x, wrong, _ := parse.Parse(tight)
	if wrong != 0 || len(parsesBack(t, x)) <= mostText {
		t.Error("a text with room for less than what is shown of it", wrong, len(tight))
	}
}

// changed are rules each of which differs from x in one place alone, and may be shown.
func changed(x api.Rules) []api.Rules {
	var l []api.Rules
	with := func(change func(y *api.Rules)) {
		y := copied(x)
		change(&y)
		if slowRight(y) && !same(x, y) {
			l = append(l, y)
		}
	}
	acts := func(of func(y *api.Rules) *api.Act) {
		for kind := 1; kind <= 8; kind++ {
			with(func(y *api.Rules) { of(y).Kind = kind })
			with(func(y *api.Rules) { *of(y) = anAct(kind, 0) })
		}
		for _, arg := range []int{0, 1, 2, 11, 65535} {
			with(func(y *api.Rules) { of(y).Arg = arg })
		}
	}
	acts(func(y *api.Rules) *api.Act { return &y.Default })
	for i, r := range x.L {
		acts(func(y *api.Rules) *api.Act { return &y.L[i].Act })
		with(func(y *api.Rules) { y.L = slices.Delete(y.L, i, i+1) })
		with(func(y *api.Rules) { y.L = slices.Insert(y.L, i, r) })
		with(func(y *api.Rules) { y.L[0], y.L[i] = y.L[i], y.L[0] })
		for j, name := range r.Names {
			for _, other := range append(words(), name+"a", name+"_", name+"0", name[:max(1, len(name)-1)]) {
				with(func(y *api.Rules) { y.L[i].Names[j] = other })
				with(func(y *api.Rules) { y.L[i].Names = slices.Insert(y.L[i].Names, j, other) })
			}
			with(func(y *api.Rules) { y.L[i].Names = slices.Delete(y.L[i].Names, j, j+1) })
			with(func(y *api.Rules) { n := y.L[i].Names; n[0], n[j] = n[j], n[0] })
		}
		for j, c := range r.Conds {
			for k := range 6 {
				with(func(y *api.Rules) { y.L[i].Conds[j].Arg = k })
				with(func(y *api.Rules) { y.L[i].Conds[j].Op = k + 1 })
			}
			for bit := range 64 {
				with(func(y *api.Rules) { y.L[i].Conds[j].Mask ^= 1 << bit })
				with(func(y *api.Rules) { y.L[i].Conds[j].Val ^= 1 << bit })
			}
			with(func(y *api.Rules) { y.L[i].Conds[j].Mask, y.L[i].Conds[j].Val = c.Val, c.Mask })
			with(func(y *api.Rules) { y.L[i].Conds[j].Mask = bits })
			with(func(y *api.Rules) { y.L[i].Conds = slices.Delete(y.L[i].Conds, j, j+1) })
			with(func(y *api.Rules) { y.L[i].Conds = slices.Insert(y.L[i].Conds, j, c) })
			with(func(y *api.Rules) { n := y.L[i].Conds; n[0], n[j] = n[j], n[0] })
		}
	}
	return l
}

// P11.2: unlike rules are shown unlike, those that differ in one place alone, and any two of these.
func TestTheoremOfUnlikeRules(t *testing.T) {
	c := chance(113)
	starts := []api.Rules{rules(anAct(api.Kill, 0)), rules(anAct(api.Errno_, 1), rule(anAct(api.Errno_, 1), "a")),
		rules(anAct(api.Trap, 0), rule(anAct(api.Trap, 11), "when and", aCond(0, api.Eq, bits, 0), aCond(0, api.Eq, 0, 0))),
		rules(anAct(api.Log, 0), rule(anAct(api.Log, 0), "a"), rule(anAct(api.Log, 0), "a a"),
			rule(anAct(api.Kill, 0), "b", aCond(1, api.Lt, 1, bits)))}
	for range 100 {
		starts = append(starts, c.rules(4))
	}
	seen := map[string]api.Rules{}
	pairs := 0
	for _, start := range starts {
		for _, x := range append(changed(start), start) {
			text, wrong := Text(x)
			if wrong != 0 {
				t.Fatalf("%v: %d", x, wrong)
			}
			other, ok := seen[text]
			if ok && !same(other, x) {
				t.Fatalf("%q: %v and %v", text, other, x)
			}
			seen[text] = x
			pairs++
		}
	}
	if pairs < 10000 {
		t.Error(pairs)
	}
}

// R3: what is handed in stays as it is, and the text shares no bytes with its names.
func TestNothingIsChangedOrShared(t *testing.T) {
	c := chance(114)
	for range 2000 {
		x := c.rules(4)
		if c.below(4) == 0 {
			x = c.spoilt(x)
		}
		before := copied(x)
		Right(x)
		Text(x)
		if !same(x, before) {
			t.Fatalf("%v was %v", x, before)
		}
	}
	b := []byte("readwrite")
	x := rules(anAct(api.Log, 0), api.Rule{Act: anAct(api.Kill, 0), Names: []string{unsafe.String(&b[0], 4)}},
		api.Rule{Act: anAct(api.Kill, 0), Names: []string{unsafe.String(&b[0], 4), unsafe.String(&b[4], 5)}})
	text, _ := Text(x)
	for i := range b {
		b[i] = 'y'
	}
	if text != "default log;\nkill read;\nkill read, write;\n" {
		t.Errorf("the names' own bytes were kept: %q", text)
	}

	room := []string{"a", "b", "c"}
	conds := []api.Cond{aCond(0, api.Eq, bits, 0), aCond(1, api.Eq, 1, 0)}
	l := []api.Rule{{Act: anAct(api.Kill, 0), Names: room[:1], Conds: conds[:1]}, rule(anAct(api.Log, 0), "z")}
	shows(t, "default log;\nkill a when arg0 == 0;\n", rules(anAct(api.Log, 0), l[:1]...))
	if !slices.Equal(room, []string{"a", "b", "c"}) || conds[1] != aCond(1, api.Eq, 1, 0) || l[1].Names[0] != "z" {
		t.Error("what lies behind a list was changed", room, conds, l)
	}
}

// R4: what is answered hangs on nothing asked before.
func TestNothingIsKept(t *testing.T) {
	c := chance(115)
	var l []api.Rules
	for range 20 {
		x := c.rules(3)
		l = append(l, x, c.spoilt(x))
	}
	for _, x := range l {
		text, wrong := Text(x)
		for _, other := range l {
			Text(other)
			if again, too := Text(x); again != text || too != wrong || Right(x) != (wrong == 0) {
				t.Fatalf("%v behind %v: %q, %d", x, other, again, too)
			}
		}
	}
}
