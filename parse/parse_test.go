package parse

import (
	"math"
	"regexp"
	"slices"
	"strconv"
	"strings"
	"testing"
	"unsafe"

	"fairlead/api"
	"fairlead/lex"
)

// The document's numbers, written out.
const (
	wrongLong   = 4
	wrongByte   = 5
	wrongNumber = 6
	wrongSyntax = 7

	mostRules = 64
	mostNames = 16
	mostConds = 8
	mostText  = 8192

	all = 1<<64 - 1
)

// actKinds are the words of acts, and their kinds.
func actKinds() map[string]int {
	return map[string]int{"kill": 1, "thread": 2, "trap": 3, "errno": 4, "notify": 5, "trace": 6, "log": 7, "allow": 8}
}

// numbered are the words of acts behind which a number stands; plain are the others.
func numbered() []string { return []string{"trap", "errno", "trace"} }
func plain() []string    { return []string{"kill", "thread", "notify", "log", "allow"} }

// signs are those of conditions, as their ops rise from 1 on.
func signs() []string { return []string{"==", "!=", "<", "<=", ">", ">="} }

func act(kind, arg int) api.Act { return api.Act{Kind: kind, Arg: arg} }

func rule(a api.Act, names string, conds ...api.Cond) api.Rule {
	return api.Rule{Act: a, Names: strings.Fields(names), Conds: conds}
}

func cond(arg, op int, mask, val uint64) api.Cond {
	return api.Cond{Arg: arg, Op: op, Mask: mask, Val: val}
}

// same tells whether rules are alike, nil lists and empty ones alike too.
func same(x, y api.Rules) bool {
	return x.Default == y.Default && slices.EqualFunc(x.L, y.L, func(a, b api.Rule) bool {
		return a.Act == b.Act && slices.Equal(a.Names, b.Names) && slices.Equal(a.Conds, b.Conds)
	})
}

// has fails if a text is not just these rules.
func has(t *testing.T, text string, byDefault api.Act, l ...api.Rule) {
	t.Helper()
	x, wrong, at := Parse(text)
	if wrong != 0 || at != -1 || !same(x, api.Rules{Default: byDefault, L: l}) {
		t.Errorf("%.80q: %v, %d, %d: not %v, %v", text, x, wrong, at, byDefault, l)
	}
}

// fails fails if not just this is wrong with a text, at this place, and without rules beside it.
func fails(t *testing.T, text string, want api.Errno, place int) {
	t.Helper()
	x, wrong, at := Parse(text)
	if wrong != want || at != place || !same(x, api.Rules{}) {
		t.Errorf("%.80q: %v, %d, %d: not %d, %d", text, x, wrong, at, want, place)
	}
}

// failsAt is fails of a text in which a byte @ marks the place, and is no byte of the text.
func failsAt(t *testing.T, text string, want api.Errno) {
	t.Helper()
	ahead, behind, ok := strings.Cut(text, "@")
	if !ok {
		t.Fatalf("%q has no place", text)
	}
	fails(t, ahead+behind, want, len(ahead))
}

// letter is what a token is to the document's table: of acts k, or e if they have a number; of the other words that have
// a place of their own d, w, n and g, of the rest x; of numbers 5; of conditions' signs =.
func letter(token api.Token) string {
	switch text := token.Text; {
	case token.Kind == api.Number:
		return "5"
	case slices.Contains(signs(), text):
		return "="
	case token.Kind == api.Sign:
		return text
	case slices.Contains(plain(), text):
		return "k"
	case slices.Contains(numbered(), text):
		return "e"
	case text == "default":
		return "d"
	case text == "when":
		return "w"
	case text == "and":
		return "n"
	case len(text) == 4 && text[:3] == "arg" && text[3] >= '0' && text[3] <= '5':
		return "g"
	}
	return "x"
}

// The document's table, over letters of tokens.
const (
	anAct = "(?:k|e5)"
	names = "[dkewngx](?:,[dkewngx])*"
	aCond = "g(?:&5)?=5"
)

var (
	defaultLine = regexp.MustCompile("^d" + anAct + ";$")
	ruleLine    = regexp.MustCompile("^" + anAct + names + "(?:w" + aCond + "(?:n" + aCond + ")*)?;$")
	actNumber   = regexp.MustCompile("^d?e5$")
	ruleWord    = regexp.MustCompile("^[ke]$")
	ruleNames   = regexp.MustCompile("^" + anAct + names + "$")
	ruleConds   = regexp.MustCompile("^" + anAct + names + "(w(?:" + aCond + "n)*g)$")
)

// stands tells whether a line can go on to be one, by trying each way in which a line may end.
func stands(line string, of *regexp.Regexp) bool {
	for _, end := range []string{"", ";", "5;", "k;", "dk;", "x;", "5x;", "kx;", "g=5;", "=5;", "5=5;"} {
		if of.MatchString(line + end) {
			return true
		}
	}
	return false
}

// slow is Parse by the document's words: of each token it is asked whether the line up to it stands in the table.
func slow(text string) (api.Rules, api.Errno, int) {
	tokens, wrong, at := lex.All(text)
	if wrong != 0 {
		return api.Rules{}, wrong, at
	}
	var x api.Rules
	lines, line, from := 0, "", 0
	for i, token := range tokens {
		of := ruleLine
		if lines == 0 {
			of = defaultLine
		}
		if token.Kind == api.End {
			if lines == 0 || line != "" {
				return api.Rules{}, wrongSyntax, token.At
			}
			break
		}
		line += letter(token)
		switch {
		case !stands(line, of):
			return api.Rules{}, wrongSyntax, token.At
		case actNumber.MatchString(line) && token.N > 65535:
			return api.Rules{}, wrongNumber, token.At
		case lines > 0 && slowFull(line, lines-1):
			return api.Rules{}, wrongLong, token.At
		}
		if token.Text == ";" {
			if lines == 0 {
				x.Default, _ = slowAct(tokens[from+1 : i])
			} else {
				x.L = append(x.L, slowRule(tokens[from:i]))
			}
			lines, line, from = lines+1, "", i+1
		}
	}
	return x, 0, -1
}

// slowFull tells whether the last token of a rule's line is the first of one rule, name or condition too many.
func slowFull(line string, rules int) bool {
	if ruleWord.MatchString(line) {
		return rules == mostRules
	}
	if ruleNames.MatchString(line) {
		return strings.Count(line, ",") == mostNames
	}
	if m := ruleConds.FindStringSubmatch(line); m != nil {
		return strings.Count(m[1], "g") == mostConds+1
	}
	return false
}

// slowAct is the act at the front of a line that stands, and how many tokens it has.
func slowAct(line []api.Token) (api.Act, int) {
	word := line[0].Text
	if slices.Contains(numbered(), word) {
		return act(actKinds()[word], int(line[1].N)), 2
	}
	return act(actKinds()[word], 0), 1
}

// slowRule is the rule of a line that stands, without its last sign.
func slowRule(line []api.Token) api.Rule {
	var x api.Rule
	var n int
	x.Act, n = slowAct(line)
	line = line[n:]
	x.Names = []string{line[0].Text}
	for line = line[1:]; len(line) > 0 && line[0].Text == ","; line = line[2:] {
		x.Names = append(x.Names, line[1].Text)
	}
	for len(line) > 0 { // when, or and
		c := cond(int(line[1].Text[3]-'0'), 0, all, 0)
		line = line[2:]
		if line[0].Text == "&" {
			c.Mask, line = line[1].N, line[2:]
		}
		c.Op, c.Val = slices.Index(signs(), line[0].Text)+1, line[1].N
		x.Conds, line = append(x.Conds, c), line[2:]
	}
	return x
}

// follows fails if Parse does not answer of a text what the words say; else it tells whether the text is one of rules.
func follows(t *testing.T, text string) bool {
	t.Helper()
	x, wrong, at := Parse(text)
	if want, wrongToo, place := slow(text); wrong != wrongToo || at != place || !same(x, want) {
		t.Fatalf("%q: %v, %d, %d: not %v, %d, %d", text, x, wrong, at, want, wrongToo, place)
	}
	return wrong == 0
}

// chance is a row of numbers that look scattered, and are the same at each run of the tests.
type chance uint64

func (c *chance) below(n int) int {
	*c += 0x9e3779b97f4a7c15
	z := uint64(*c)
	z = (z ^ z>>30) * 0xbf58476d1ce4e5b9
	z = (z ^ z>>27) * 0x94d049bb133111eb
	return int((z ^ z>>31) % uint64(n))
}

// of is one of some texts.
func (c *chance) of(l ...string) string { return l[c.below(len(l))] }

// number is one of 64 bits, that is as often small, or great, as between.
func (c *chance) number() uint64 {
	return []uint64{0, 1, 5, all, all - 1, 1 << 63, 1 << 32, 65535, 65536, uint64(c.below(1000)),
		uint64(c.below(math.MaxInt)) * 2}[c.below(11)]
}

// words are names, those that stand for other things elsewhere among them.
func words() []string {
	return []string{"a", "read", "open", "x_9", "default", "when", "and", "kill", "thread", "trap", "errno", "notify",
		"trace", "log", "allow", "arg0", "arg5", "arg6", "arg", "arg00", "args"}
}

func (c *chance) act() api.Act {
	kind := 1 + c.below(8)
	if kind == 3 || kind == 4 || kind == 6 {
		return act(kind, []int{0, 1, 13, 65535, c.below(65536)}[c.below(5)])
	}
	return act(kind, 0)
}

// rules are some that may be written.
func (c *chance) rules(most int) api.Rules {
	x := api.Rules{Default: c.act()}
	for range c.below(most + 1) {
		var r api.Rule
		r.Act = c.act()
		for range 1 + c.below(3) {
			r.Names = append(r.Names, c.of(words()...))
		}
		for range c.below(3) {
			r.Conds = append(r.Conds, cond(c.below(6), 1+c.below(6), c.number(), c.number()))
		}
		x.L = append(x.L, r)
	}
	return x
}

// digits are those of a number, of either kind.
func (c *chance) digits(n uint64) string {
	if c.below(3) == 0 {
		return "0x" + strconv.FormatUint(n, 16)
	}
	return strconv.FormatUint(n, 10)
}

func (c *chance) actTokens(a api.Act) []string {
	word := []string{"", "kill", "thread", "trap", "errno", "notify", "trace", "log", "allow"}[a.Kind]
	if slices.Contains(numbered(), word) {
		return []string{word, c.digits(uint64(a.Arg))}
	}
	return []string{word}
}

func (c *chance) condTokens(x api.Cond) []string {
	l := []string{"arg" + strconv.Itoa(x.Arg)}
	if x.Mask != all || c.below(2) == 0 {
		l = append(l, "&", c.digits(x.Mask))
	}
	return append(l, signs()[x.Op-1], c.digits(x.Val))
}

func (c *chance) ruleTokens(r api.Rule) []string {
	l := c.actTokens(r.Act)
	for i, name := range r.Names {
		if i > 0 {
			l = append(l, ",")
		}
		l = append(l, name)
	}
	for i, x := range r.Conds {
		if i == 0 {
			l = append(l, "when")
		} else {
			l = append(l, "and")
		}
		l = append(l, c.condTokens(x)...)
	}
	return append(l, ";")
}

// tokens are the texts of those of rules.
func (c *chance) tokens(x api.Rules) []string {
	l := append(append([]string{"default"}, c.actTokens(x.Default)...), ";")
	for _, r := range x.L {
		l = append(l, c.ruleTokens(r)...)
	}
	return l
}

// blanks are at least one, and may hold notes, each of which ends with a byte 10.
func (c *chance) blanks() string {
	return c.of(" ", " ", " ", "\t", "\n", "\r\n", "  ", "#\n", "# default kill; 05 =\n", "#é\xff;\n\t")
}

// laid are tokens as a text.
func (c *chance) laid(l []string) string {
	var b strings.Builder
	if c.below(2) == 0 {
		b.WriteString(c.blanks())
	}
	for _, s := range l {
		b.WriteString(s)
		b.WriteString(c.blanks())
	}
	return b.String()
}

// P10.1, P10.2: the numbers that api gives what stands in rules, what may be wrong, and the limits.
func TestNumbersAreNamed(t *testing.T) {
	if api.OK != 0 || api.ErrLong != wrongLong || api.ErrByte != wrongByte || api.ErrNumber != wrongNumber ||
		api.ErrSyntax != wrongSyntax {
		t.Error("errors")
	}
	if api.MaxRules != mostRules || api.MaxNames != mostNames || api.MaxConds != mostConds || api.MaxText != mostText {
		t.Error("limits")
	}
	if api.Kill != 1 || api.Thread != 2 || api.Trap != 3 || api.Errno_ != 4 || api.Notify != 5 || api.Trace != 6 ||
		api.Log != 7 || api.Allow != 8 {
		t.Error("kinds of acts")
	}
	if api.Eq != 1 || api.Ne != 2 || api.Lt != 3 || api.Le != 4 || api.Gt != 5 || api.Ge != 6 {
		t.Error("ops")
	}
}

// P10.1, P10.2: the chapter's examples, and texts of those of the whole.
func TestExamples(t *testing.T) {
	has(t, "default kill; allow read, write; errno 13 open when arg1 & 3 != 0;", act(api.Kill, 0),
		rule(act(api.Allow, 0), "read write"), rule(act(api.Errno_, 13), "open", cond(1, api.Ne, 3, 0)))
	fails(t, "default kill", wrongSyntax, 12)
	fails(t, "default errno 65536;", wrongNumber, 14)
	fails(t, "default log; allow read when arg6 == 1;", wrongSyntax, 29)

	has(t, "default allow; log read;", act(api.Allow, 0), rule(act(api.Log, 0), "read"))
	has(t, "default log; kill a when arg0 & 0xff00000000 == 0x100000000;", act(api.Log, 0),
		rule(act(api.Kill, 0), "a", cond(0, api.Eq, 0xff00000000, 0x100000000)))
}

// P10.1: what is wrong with a text's tokens is told as lex tells it, ahead of all that can't stand.
func TestFaultsOfTokens(t *testing.T) {
	failsAt(t, "default @A;", wrongByte)
	failsAt(t, "@=", wrongByte)
	failsAt(t, "default kill; allow a when arg0 @= 5;", wrongByte)
	failsAt(t, "default kill; allow a when arg0 @! 5;", wrongByte)
	failsAt(t, "default kill; allow a@-b;", wrongByte)
	failsAt(t, "default kill; allow a;@é", wrongByte)
	failsAt(t, "default errno @05;", wrongNumber)
	failsAt(t, "default errno @0x;", wrongNumber)
	failsAt(t, "default errno @13a;", wrongNumber)
	failsAt(t, "default kill; allow a when arg0 == @18446744073709551616;", wrongNumber)
	failsAt(t, "default kill; allow a when arg0 == @0x10000000000000000;", wrongNumber)
	failsAt(t, "default kill; allow a when arg0 & @00 == 1;", wrongNumber)
	failsAt(t, "kill default ; , @05", wrongNumber)
	failsAt(t, "kill default ; , @=", wrongByte)
	failsAt(t, "; errno 65536 @05", wrongNumber)
	failsAt(t, "default errno 65536; @A", wrongByte)
	failsAt(t, "default errno 70000 @070000", wrongNumber)
	failsAt(t, "default kill; "+strings.Repeat("log a;", mostRules+1)+"@05", wrongNumber)
	failsAt(t, "default kill; allow a"+strings.Repeat(", a", mostNames)+"@!;", wrongByte)

	long := "default kill;" + strings.Repeat(" ", mostText-13)
	has(t, long, act(api.Kill, 0))
	fails(t, long+" ", wrongLong, 0)
	fails(t, " "+long, wrongLong, 0)
	fails(t, strings.Repeat("=", mostText+1), wrongLong, 0)
	fails(t, strings.Repeat("05 ", mostText), wrongLong, 0)
	fails(t, strings.Repeat("kill ", mostText), wrongLong, 0)
	fails(t, strings.Repeat(" ", mostText), wrongSyntax, mostText)
}

// P10.2: a text without tokens is none; its end is what can't stand.
func TestTextsWithoutTokens(t *testing.T) {
	for _, text := range []string{"", " ", "\n", " \t\r\n", "#", "# default kill;", "#\n", "# default kill;\n"} {
		fails(t, text, wrongSyntax, len(text))
	}
}

// P10.1, P10.2: a default stands ahead of all, once, with an act and a ;.
func TestDefault(t *testing.T) {
	has(t, "default kill;", act(api.Kill, 0))
	has(t, "default\nkill\n;\n", act(api.Kill, 0))
	has(t, "default errno 13;", act(api.Errno_, 13))
	for _, text := range []string{"default@", "default @", "default@;", "default kill@", "default kill  @",
		"default @5;", "default @default;", "default @default kill;", "default @read;", "default @when;", "default @,;",
		"default @arg0;", "default @kills;", "default @kil;", "default @defaultkill;", "default @== 5;",
		"default kill@,", "default kill @kill;", "default kill @a;", "default kill @5;", "default kill @default;",
		"default kill @when arg0 == 1;", "default kill @allow a;", "default kill;@;", "default kill; @default kill;",
		"default kill; @default log;", "default kill; @default;", "default kill; log a; @default kill;",
		"default kill; log a; @default", "@kill;", "@kill", "@;", "@;default kill;", "@allow a; default kill;",
		"@allow a;", "@a", "@5", "@,", "@==", "@defaults kill;", "@defaul kill;", "@defaultkill;", "@default0 kill;",
		"@when", "@arg0 == 5;"} {
		failsAt(t, text, wrongSyntax)
	}
}

// P10.1, P10.2: each word of an act, as the default's and a rule's, with and without a number.
func TestActs(t *testing.T) {
	for _, word := range plain() {
		a := act(actKinds()[word], 0)
		has(t, "default "+word+";", a)
		has(t, "default log; "+word+" a;", act(api.Log, 0), rule(a, "a"))
		has(t, "default log; "+word+" a, b when arg2 < 7;", act(api.Log, 0), rule(a, "a b", cond(2, api.Lt, all, 7)))
		for _, n := range []string{"0", "1", "13", "65535", "65536", "18446744073709551615", "0x0"} {
			failsAt(t, "default "+word+" @"+n+";", wrongSyntax)
			failsAt(t, "default log; "+word+" @"+n+" a;", wrongSyntax)
			failsAt(t, "default log; "+word+" a @"+n+";", wrongSyntax)
		}
	}
	for _, word := range numbered() {
		kind := actKinds()[word]
		for text, n := range map[string]int{"0": 0, "1": 1, "13": 13, "65534": 65534, "65535": 65535, "0x0": 0,
			"0xffff": 65535, "0xd": 13, "0x000000000000000d": 13, "0x000000000000ffff": 65535} {
			has(t, "default "+word+" "+text+";", act(kind, n))
			has(t, "default log; "+word+" "+text+" a;", act(api.Log, 0), rule(act(kind, n), "a"))
			failsAt(t, "default "+word+" "+text+" @"+text+";", wrongSyntax)
			failsAt(t, "default log; "+word+" "+text+" @"+text+" a;", wrongSyntax)
			failsAt(t, "default log; "+word+" "+text+"@;", wrongSyntax)
			failsAt(t, "default log; "+word+" "+text+"@", wrongSyntax)
		}
		for _, behind := range []string{"@;", "@", " @a;", " @a 13;", " @kill;", " @, 13;", " @when arg0 == 1;", " @== 13;",
			" @errno 13;", " @& 13;"} {
			failsAt(t, "default "+word+behind, wrongSyntax)
			failsAt(t, "default log; "+word+behind, wrongSyntax)
		}
	}
	for _, word := range []string{"kills", "kil", "threads", "errn", "errno_", "errno13", "traps", "tracer", "logs", "lo",
		"allowed", "allo", "deny", "notif", "ok", "a", "x", "when", "and", "arg0", "default", "alloww", "llow"} {
		failsAt(t, "default @"+word+";", wrongSyntax)
		failsAt(t, "default @"+word+" 13;", wrongSyntax)
		failsAt(t, "default log; @"+word+" a;", wrongSyntax)
		failsAt(t, "default log; @"+word+" 13 a;", wrongSyntax)
	}
}

// P10.2: an act's number above 65535 is wrong itself, ahead of what is wrong behind it.
func TestNumbersOfActs(t *testing.T) {
	for _, word := range numbered() {
		for _, n := range []string{"65536", "65537", "65549", "131071", "131072", "4294967295", "4294967296", "4294967309",
			"9223372036854775807", "9223372036854775808", "18446744073709551615", "0x10000", "0x1000d",
			"0xffffffffffffffff", "0x8000000000000000", "0x100000000", "0x10000000d"} {
			for _, behind := range []string{";", "", " a;", " 5;", " default", ",", "; allow"} {
				failsAt(t, "default "+word+" @"+n+behind, wrongNumber)
				failsAt(t, "default log; "+word+" @"+n+behind, wrongNumber)
			}
		}
	}
}

// P10.1, P10.2: rules have a name or more, with a , between, and no other thing there.
func TestNames(t *testing.T) {
	log := act(api.Log, 0)
	has(t, "default log; allow a;", log, rule(act(api.Allow, 0), "a"))
	has(t, "default log; allow a,b;", log, rule(act(api.Allow, 0), "a b"))
	has(t, "default log; allow b , a , b;", log, rule(act(api.Allow, 0), "b a b"))
	has(t, "default log; errno 5 c, a_0, b9, a_0;", log, rule(act(api.Errno_, 5), "c a_0 b9 a_0"))
	long := strings.Repeat("a", 8000)
	has(t, "default log; allow "+long+";", log, rule(act(api.Allow, 0), long))
	for _, text := range []string{"allow@;", "allow@", "allow @,;", "allow @, a;", "allow @,a", "allow @,,;",
		"allow a,@;", "allow a,@", "allow a,@, b;", "allow a, b,@;", "allow a, b,@, c;", "allow a @b;", "allow a @b, c;",
		"allow a, b @c;", "allow a@", "allow a, b@", "allow @5;", "allow a, @5;", "allow @==;", "allow a, @==;",
		"allow a @5;", "allow a @& 5;", "allow a @== 5;", "allow a @arg0 == 5;", "allow a @and arg0 == 5;",
		"allow a @default;", "allow a @kill;", "allow @&;", "allow @<;", "allow a, when @arg0 == 1;"} {
		failsAt(t, "default log; "+text, wrongSyntax)
	}
}

// P10.1: names that are also words of acts, when, and, default or arg0 are names where a name stands, and nothing else.
func TestNamesLikeOtherWords(t *testing.T) {
	log, allow := act(api.Log, 0), act(api.Allow, 0)
	one := cond(1, api.Eq, all, 1)
	for _, word := range words() {
		has(t, "default log; allow "+word+";", log, rule(allow, word))
		has(t, "default log; errno 7 "+word+";", log, rule(act(api.Errno_, 7), word))
		has(t, "default log; allow "+word+","+word+";", log, rule(allow, word+" "+word))
		has(t, "default log; allow a, "+word+", b;", log, rule(allow, "a "+word+" b"))
		has(t, "default log; allow "+word+" when arg1 == 1;", log, rule(allow, word, one))
		has(t, "default log; allow a, "+word+" when arg1 == 1 and arg1 == 1;", log, rule(allow, "a "+word, one, one))
		for _, other := range words() {
			if other == "when" {
				failsAt(t, "default log; allow "+word+" when@;", wrongSyntax)
			} else {
				failsAt(t, "default log; allow "+word+" @"+other+";", wrongSyntax)
			}
		}
	}
	has(t, "default kill; kill kill, kill;", act(api.Kill, 0), rule(act(api.Kill, 0), "kill kill"))
	has(t, "default log; allow when, when when arg1 == 1;", log, rule(allow, "when when", one))
	has(t, "default log; allow default; log default;", log, rule(allow, "default"), rule(log, "default"))
	failsAt(t, "default log; allow when @arg0 == 1;", wrongSyntax)
	failsAt(t, "default log; allow when when@;", wrongSyntax)
	failsAt(t, "default log; allow when when @when arg1 == 1;", wrongSyntax)
	failsAt(t, "default log; allow a, when @arg1 == 1;", wrongSyntax)
	failsAt(t, "default log; errno @when 5;", wrongSyntax)
}

// P10.1, P10.2: a when asks for a condition, and an and for another one.
func TestWhen(t *testing.T) {
	log, allow := act(api.Log, 0), act(api.Allow, 0)
	zero, one := cond(0, api.Eq, all, 0), cond(1, api.Ge, 1, 1)
	has(t, "default log; allow a when arg0 == 0;", log, rule(allow, "a", zero))
	has(t, "default log; allow a when arg0 == 0 and arg1 & 1 >= 1;", log, rule(allow, "a", zero, one))
	has(t, "default log; allow a when arg1&1>=1 and arg0==0 and arg0==0;", log, rule(allow, "a", one, zero, zero))
	for _, text := range []string{"@", "@;", "@and arg0 == 0;", "@when arg0 == 0;", "@a;", "@a == 0;", "@5;", "@5 == 5;",
		"@, b;", "@== 5;", "@& 5 == 5;", "@default;", "@kill a;", "arg0 == 0@", "arg0 == 0 and@", "arg0 == 0 and@;",
		"arg0 == 0 and @and arg1 == 1;", "arg0 == 0 and @when arg1 == 1;", "arg0 == 0 and @5;", "arg0 == 0 and @a;",
		"arg0 == 0 and @, arg1 == 1;", "arg0 == 0 and arg1 == 1 and@;", "arg0 == 0 and arg1 == 1 and @and;",
		"arg0 == 0 @when arg1 == 1;", "arg0 == 0@, arg1 == 1;", "arg0 == 0@, b;", "arg0 == 0 @arg1 == 1;",
		"arg0 == 0 @b;", "arg0 == 0 @5;", "arg0 == 0 @== 0;", "arg0 == 0 @& 5;", "arg0 == 0 @or arg1 == 1;",
		"arg0 == 0 @& arg1 == 1;", "arg0 == 0 @ands arg1 == 1;", "arg0 == 0 @an arg1 == 1;"} {
		failsAt(t, "default log; allow a when "+text, wrongSyntax)
	}
	failsAt(t, "default log; allow a @whens arg0 == 0;", wrongSyntax)
	failsAt(t, "default log; allow a @whe arg0 == 0;", wrongSyntax)
	failsAt(t, "default log; allow a @if arg0 == 0;", wrongSyntax)
	failsAt(t, "default kill @when arg0 == 0;", wrongSyntax)
}

// P10.1, P10.2: arg0 to arg5 name the arguments; what is like them does not.
func TestArguments(t *testing.T) {
	for i := range 6 {
		word := "arg" + strconv.Itoa(i)
		has(t, "default log; allow a when "+word+" == 7;", act(api.Log, 0),
			rule(act(api.Allow, 0), "a", cond(i, api.Eq, all, 7)))
		has(t, "default log; allow a when arg3 < 1 and "+word+" & 6 != 7;", act(api.Log, 0),
			rule(act(api.Allow, 0), "a", cond(3, api.Lt, all, 1), cond(i, api.Ne, 6, 7)))
	}
	for _, word := range []string{"arg6", "arg7", "arg8", "arg9", "arg", "arg00", "arg01", "arg05", "arg10", "arg15",
		"arg50", "arg55", "arg0_", "arg_0", "arg_", "arg0a", "arga", "args", "args0", "ar0", "ar", "a0", "rg0", "aarg0",
		"argarg0", "argo", "brg0", "arh0", "a", "and", "when", "default", "kill", "errno"} {
		failsAt(t, "default log; allow a when @"+word+" == 7;", wrongSyntax)
		failsAt(t, "default log; allow a when arg0 == 7 and @"+word+" == 7;", wrongSyntax)
		failsAt(t, "default log; allow a when @"+word, wrongSyntax)
	}
	for _, text := range []string{"@Arg0 == 7;", "@ARG0 == 7;", "arg@-1 == 7;", "arg@.0 == 7;"} {
		failsAt(t, "default log; allow a when "+text, wrongByte)
	}
	for _, text := range []string{"@arg 0 == 7;", "@0 == 7;", "@0xa == 7;", "@7 == arg0;"} {
		failsAt(t, "default log; allow a when "+text, wrongSyntax)
	}
}

// P10.1, P10.2: conditions with and without &, with each of the six signs, and with masks and values at their edges.
func TestConditions(t *testing.T) {
	numbers := map[string]uint64{"0": 0, "0x0": 0, "1": 1, "0x10": 16, "255": 255, "65535": 65535, "65536": 65536,
		"4294967295": math.MaxUint32, "4294967296": 1 << 32, "0x7fffffffffffffff": math.MaxInt64,
		"9223372036854775808": 1 << 63, "18446744073709551614": all - 1, "18446744073709551615": all,
		"0xffffffffffffffff": all}
	for i, sign := range signs() {
		for text, n := range numbers {
			has(t, "default log; allow a when arg4 "+sign+" "+text+";", act(api.Log, 0),
				rule(act(api.Allow, 0), "a", cond(4, i+1, all, n)))
			has(t, "default log; allow a when arg4"+sign+text+";", act(api.Log, 0),
				rule(act(api.Allow, 0), "a", cond(4, i+1, all, n)))
			for mask, m := range numbers {
				has(t, "default log; allow a when arg4 & "+mask+" "+sign+" "+text+";", act(api.Log, 0),
					rule(act(api.Allow, 0), "a", cond(4, i+1, m, n)))
			}
		}
	}
}

// P10.2: other signs, and words or nothing in a number's place, can't stand in conditions.
func TestConditionsThatAreNone(t *testing.T) {
	for _, text := range []string{"arg0@;", "arg0@", "arg0 @5;", "arg0 @a;", "arg0 @and;", "arg0 @and arg1 == 1;",
		"arg0 @arg1;", "arg0@, 5;", "arg0@; 5;", "arg0 @when;", "arg0 @is 5;", "arg0 &@;", "arg0 &@", "arg0 & @a;",
		"arg0 & @arg1 == 5;", "arg0 & @a == 5;", "arg0 & @== 5;", "arg0 & @& 5 == 5;", "arg0 &@& 5 == 5;", "arg0 & @, 5;",
		"arg0 & 5@;", "arg0 & 5@", "arg0 & 5 @5;", "arg0 & 5 @a;", "arg0 & 5 @and arg1 == 1;", "arg0 & 5 @& 5 == 5;",
		"arg0 & 5@, 5;", "arg0 & 5@; 5;", "arg0 & 5 @arg1 == 1;", "arg0 & 5 ==@;", "arg0 & 5 ==@", "arg0 & 5 == @a;",
		"arg0 & 5 == @arg1;", "arg0 & 5 == @and;", "arg0 ==@;", "arg0 ==@", "arg0 == @a;", "arg0 == @and arg1 == 1;",
		"arg0 == @arg1;", "arg0 == @== 5;", "arg0 ==@== 5;", "arg0 == @& 5;", "arg0 == 5 @& 5;", "arg0 == 5 @== 5;",
		"arg0 == 5 @5;", "arg0 < @< 5;", "arg0 <@< 5;", "arg0 <@> 5;", "arg0 >@< 5;", "arg0 >=@== 5;", "arg0 > @, 5;",
		"arg0 & 5 < @; ", "arg0 != @!= 5;", "arg0 == @when;", "arg0 == @default;"} {
		failsAt(t, "default log; allow a when "+text, wrongSyntax)
		failsAt(t, "default log; allow a when arg5 & 1 >= 3 and "+text, wrongSyntax)
	}
	failsAt(t, "default log; allow a when arg0==@0and arg1==1;", wrongNumber) // the letters belong to the number
}

// P10.2: a number of a condition may be of any size that lex knows: 65535 is an act's bound alone.
func TestNumbersOfConditionsAreOfAnySize(t *testing.T) {
	has(t, "default errno 65535; trap 65535 a when arg0 & 65536 == 65536 and arg1 < 70000;", act(api.Errno_, 65535),
		rule(act(api.Trap, 65535), "a", cond(0, api.Eq, 65536, 65536), cond(1, api.Lt, all, 70000)))
}

// P10.1: rules, names and conditions stay in order, and what stands twice stands twice.
func TestOrder(t *testing.T) {
	c3, c1, c2 := cond(3, api.Gt, 9, 5), cond(1, api.Lt, all, 2), cond(2, api.Ne, 0, all)
	has(t, `default trace 9;
		trap 3 z, y, x, y when arg3 & 9 > 5 and arg1 < 2 and arg2 & 0 != 0xffffffffffffffff and arg1 < 2;
		kill b; allow b; thread a; kill b; # again
		notify q when arg1 < 2; notify q when arg3 & 9 > 5;`, act(api.Trace, 9),
		rule(act(api.Trap, 3), "z y x y", c3, c1, c2, c1), rule(act(api.Kill, 0), "b"), rule(act(api.Allow, 0), "b"),
		rule(act(api.Thread, 0), "a"), rule(act(api.Kill, 0), "b"), rule(act(api.Notify, 0), "q", c1),
		rule(act(api.Notify, 0), "q", c3))
}

// P10.2: 16 names, and the word that would be the 17th; what is no word can't stand there in any case.
func TestManyNames(t *testing.T) {
	log, allow := act(api.Log, 0), act(api.Allow, 0)
	for n := 1; n <= mostNames; n++ {
		names := strings.Fields(strings.Repeat("a b c_1 kill ", 4))[:n]
		has(t, "default log; allow "+strings.Join(names, ", ")+";", log, rule(allow, strings.Join(names, " ")))
		has(t, "default log; log z; allow "+strings.Join(names, ", ")+" when arg0 == 1;", log, rule(log, "z"),
			rule(allow, strings.Join(names, " "), cond(0, api.Eq, all, 1)))
	}
	full := "default log; allow a" + strings.Repeat(", a", mostNames-1)
	for _, word := range append(words(), "b_7") {
		for _, behind := range []string{";", "", ", b;", " b", " 5", " when arg0 == 1;", ", ;", strings.Repeat(", a", 20)} {
			failsAt(t, full+", @"+word+behind, wrongLong)
			failsAt(t, "default log; log z;"+full[12:]+", @"+word+behind, wrongLong)
		}
	}
	for _, text := range []string{",@;", ",@", ",@,", ", @5;", ", @==;", " @a;", "@", " @5;", " @and;", ",@, a;"} {
		failsAt(t, full+text, wrongSyntax)
	}
	has(t, full+"; allow a"+strings.Repeat(", a", mostNames-1)+";", log, // each rule has its own
		rule(allow, strings.Repeat("a ", mostNames)), rule(allow, strings.Repeat("a ", mostNames)))
}

// P10.2: 8 conditions, and the arg word that would begin the 9th; what is no such word can't stand there in any case.
func TestManyConditions(t *testing.T) {
	log, allow := act(api.Log, 0), act(api.Allow, 0)
	for n := 1; n <= mostConds; n++ {
		text, l := "default log; allow a when arg0 & 2 == 0", []api.Cond{cond(0, api.Eq, 2, 0)}
		for i := 1; i < n; i++ {
			text += " and arg" + strconv.Itoa(i%6) + " > " + strconv.Itoa(i)
			l = append(l, cond(i%6, api.Gt, all, uint64(i)))
		}
		has(t, text+";", log, rule(allow, "a", l...))
		has(t, text+"; allow b;", log, rule(allow, "a", l...), rule(allow, "b"))
	}
	full := "default log; allow a when arg0 == 1" + strings.Repeat(" and arg0 == 1", mostConds-1)
	for _, behind := range []string{" == 1;", "", ";", " arg0", " and", " & 5", " == 1 and arg1 == 1;"} {
		for i := range 6 {
			failsAt(t, full+" and @arg"+strconv.Itoa(i)+behind, wrongLong)
			failsAt(t, "default log; log z;"+full[12:]+" and @arg"+strconv.Itoa(i)+behind, wrongLong)
		}
		for _, word := range []string{"arg6", "arg", "arg00", "a", "and", "when", "5", "==", "&", ",", ";", "default"} {
			failsAt(t, full+" and @"+word+behind, wrongSyntax)
		}
	}
	for _, text := range []string{" and@", "@", " @arg0 == 1;", " @when arg0 == 1;", "@, b;", " and@;"} {
		failsAt(t, full+text, wrongSyntax)
	}
	one := slices.Repeat([]api.Cond{cond(0, api.Eq, all, 1)}, mostConds)
	has(t, full+";"+full[12:]+";", log, rule(allow, "a", one...), rule(allow, "a", one...)) // each rule has its own
}

// P10.2: 64 rules, and the word of an act that would begin the 65th; what is no such word can't stand there anyway.
func TestManyRules(t *testing.T) {
	full := "default log;" + strings.Repeat(" log a;", mostRules)
	l := slices.Repeat([]api.Rule{rule(act(api.Log, 0), "a")}, mostRules)
	has(t, full, act(api.Log, 0), l...)
	has(t, full+" # log a;", act(api.Log, 0), l...)
	has(t, full[:len(full)-7], act(api.Log, 0), l[1:]...)
	has(t, full[:len(full)-7]+" errno 5 b when arg0 == 1;", act(api.Log, 0),
		append(l[1:], rule(act(api.Errno_, 5), "b", cond(0, api.Eq, all, 1)))...)
	for word := range actKinds() {
		for _, behind := range []string{" a;", "", ";", " 5 a;", " 65536 a;", " 5", " a", " default", " log a; log a;"} {
			failsAt(t, full+" @"+word+behind, wrongLong)
		}
	}
	for _, text := range []string{"default log;", "a;", "kills a;", "when", "and", "arg0", "5", ";", ",", "==", "&",
		"errno_ 5 a;", "default"} {
		failsAt(t, full+" @"+text, wrongSyntax)
	}
	failsAt(t, full[:len(full)-1]+"@", wrongSyntax)
	failsAt(t, full[:len(full)-7]+" errno @65536 a;", wrongNumber)
	failsAt(t, full[:len(full)-7]+" log a@", wrongSyntax)
}

// P10.1: the greatest rules there may be.
func TestMostOfAll(t *testing.T) {
	text := "default log;" + strings.Repeat("log a"+strings.Repeat(",a", mostNames-1)+";", mostRules)
	l := slices.Repeat([]api.Rule{rule(act(api.Log, 0), strings.Repeat("a ", mostNames))}, mostRules)
	has(t, text, act(api.Log, 0), l...)

	conds := slices.Repeat([]api.Cond{cond(0, api.Lt, all, 1)}, mostConds)
	text = "default log;" + strings.Repeat("log a when arg0<1"+strings.Repeat(" and arg0<1", mostConds-1)+";", mostRules)
	has(t, text, act(api.Log, 0), slices.Repeat([]api.Rule{rule(act(api.Log, 0), "a", conds...)}, mostRules)...)
}

// P10.2: of two things that are wrong the one at the token ahead is told.
func TestTwoFaults(t *testing.T) {
	names, conds := strings.Repeat("a, ", mostNames), strings.Repeat("arg0 == 1 and ", mostConds)
	rules := "default log; " + strings.Repeat("log a; ", mostRules)
	failsAt(t, "default errno @65536 5", wrongNumber)
	failsAt(t, "default @read errno 65536;", wrongSyntax)
	failsAt(t, "default errno @a; errno 65536 b;", wrongSyntax)
	failsAt(t, "default errno @65536; trap 65537 b;", wrongNumber)
	failsAt(t, "default errno 5; trap @65537 b; ;", wrongNumber)
	failsAt(t, "default errno 5;@; trap 65537 b;", wrongSyntax)
	failsAt(t, "default log; errno @65536 "+names+"a;", wrongNumber)
	failsAt(t, "default log; errno 5 "+names+"@a; errno 65536 b;", wrongLong)
	failsAt(t, "default log; log "+names+"@a when "+conds+"arg0 == 1;", wrongLong)
	failsAt(t, "default log; log a when "+conds+"@arg0 == 1; log "+names+"a;", wrongLong)
	failsAt(t, "default log; log a when "+conds+"@arg0 =="+" ;", wrongLong)
	failsAt(t, "default log; log a when "+conds+"@arg6 == 1;", wrongSyntax)
	failsAt(t, "default log; log a when arg0 @; log "+names+"a;", wrongSyntax)
	failsAt(t, rules+"@errno 65536 "+names+"a;", wrongLong)
	failsAt(t, rules+"@a 65536 "+names+"a;", wrongSyntax)
	failsAt(t, rules[:len(rules)-7]+"log "+names+"@a; log a;", wrongLong)
	failsAt(t, "@", wrongSyntax)
}

// P10.2: places count each byte of the blanks and notes ahead of them; that of the end is the text's length.
func TestPlaces(t *testing.T) {
	for _, blank := range []string{" ", "   ", "\t", "\n", "\r\n", "#\n", "# default kill;\n", "#é語\n",
		"#\xff\xe2\x80\r\n ", " # a\n # b\n"} {
		failsAt(t, blank+"@kill"+blank+";", wrongSyntax)
		failsAt(t, blank+"default"+blank+"@read;", wrongSyntax)
		failsAt(t, blank+"default"+blank+"kill"+blank+"@", wrongSyntax)
		failsAt(t, "default errno"+blank+"@65536"+blank+";", wrongNumber)
		failsAt(t, "default log;"+blank+"log"+blank+"a"+blank+","+blank+"@;", wrongSyntax)
		failsAt(t, "default log;"+blank+"log"+blank+strings.Repeat("a,", mostNames)+blank+"@a;", wrongLong)
		failsAt(t, "default log;"+blank+"log"+blank+"a"+blank+"when"+blank+"@arg6", wrongSyntax)
		failsAt(t, "default log;"+strings.Repeat("log a;"+blank, mostRules)+"@log a;", wrongLong)
		failsAt(t, "default log; log a when "+strings.Repeat("arg0<1 and"+blank, mostConds)+"@arg0<1;", wrongLong)
		has(t, blank+"default"+blank+"log"+blank+";"+blank+"trap"+blank+"7"+blank+"a"+blank+","+blank+"b"+blank+"when"+
			blank+"arg0"+blank+"&"+blank+"3"+blank+"<="+blank+"1"+blank+"and"+blank+"arg1"+blank+">"+blank+"2"+blank+";"+blank,
			act(api.Log, 0), rule(act(api.Trap, 7), "a b", cond(0, api.Le, 3, 1), cond(1, api.Gt, all, 2)))
	}
	for _, end := range []string{"#", "# a", " # default kill;", "#é", "\n# ;"} {
		failsAt(t, "default kill"+end+"@", wrongSyntax)
		failsAt(t, "default kill; log"+end+"@", wrongSyntax)
		has(t, "default kill;"+end, act(api.Kill, 0))
	}
}

// P10.1, P10.2: texts that end anywhere, by bytes and by tokens: the end can't stand but behind a ;.
func TestTextsThatEndAnywhere(t *testing.T) {
	text := "default trap 5; allow read, write; errno 13 open, log when arg1 & 0x3 != 0 and arg5 <= 7; kill when;"
	tokens, _, _ := lex.All(text)
	for i := range len(tokens) {
		at := tokens[i].At
		if i > 0 && tokens[i-1].Text == ";" {
			if _, wrong, place := Parse(text[:at]); wrong != 0 || place != -1 {
				t.Errorf("%q: %d, %d", text[:at], wrong, place)
			}
		} else {
			fails(t, text[:at], wrongSyntax, at)
			fails(t, text[:at]+" # ;", wrongSyntax, at+4)
		}
	}
	for n := range len(text) + 1 {
		follows(t, text[:n])
		follows(t, text[n:])
	}
}

// P10.1, P10.2: every short row of tokens of each kind, behind each row that can stand, by the document's words.
func TestShortTextsFollowTheWords(t *testing.T) {
	some := []string{"default", "kill", "errno", "when", "and", "arg1", "a", "5", "70000", ",", ";", "&", "<"}
	rows := 0
	var more func(text string, n int)
	more = func(text string, n int) {
		rows++
		follows(t, text)
		if _, _, at := Parse(text); n == 0 || at >= 0 && at < len(text) { // what is behind a fault changes nothing
			return
		}
		for _, s := range some {
			more(text+s+" ", n-1)
		}
	}
	more("", 6)
	more("default kill; ", 6)
	more("default kill; errno 5 a", 5)
	more("default kill; kill a when ", 7)
	more("default kill; kill a, a when arg0 & 5 < 5 and ", 5)
	if rows < 10000 {
		t.Error(rows)
	}
}

// P10.1, P10.2: what is behind a fault changes nothing.
func TestNothingBehindAFaultCounts(t *testing.T) {
	c := chance(102)
	for range 3000 {
		l := c.spoilt(c.tokens(c.rules(3)))
		text := strings.Join(l, " ")
		x, wrong, at := Parse(text)
		if wrong == 0 || at == len(text) {
			continue
		}
		fault := at + strings.IndexByte(text[at:]+" ", ' ')
		fails(t, text[:fault], wrong, at)
		fails(t, text[:fault]+" "+c.of("; default", "5 5 5", "kill", "70000", ", ;", "a when"), wrong, at)
		if !same(x, api.Rules{}) {
			t.Fatalf("%q: %v", text, x)
		}
	}
}

// spoilt are tokens of which some are left out, doubled, changed or turned about.
func (c *chance) spoilt(l []string) []string {
	l = slices.Clone(l)
	for range c.below(4) {
		at := c.below(len(l))
		switch c.below(5) {
		case 0:
			l = slices.Delete(l, at, at+1)
		case 1:
			l = slices.Insert(l, at, l[at])
		case 2:
			l[at] = c.of(append(words(), signs()...)...)
		case 3:
			l[at] = c.of(";", ",", "&", "5", "65535", "65536", "0xffff", "0x10000", "18446744073709551615", "=", "05")
		case 4:
			other := c.below(len(l))
			l[at], l[other] = l[other], l[at]
		}
		if len(l) == 0 {
			return []string{"a"}
		}
	}
	return l
}

// P10.1, P10.2: scattered texts, by the document's words: of rules, and of these with faults among them.
func TestScatteredTextsFollowTheWords(t *testing.T) {
	c := chance(10)
	right := 0
	for range 20000 {
		l := c.tokens(c.rules(4))
		if !follows(t, c.laid(l)) {
			t.Fatalf("%q are rules", l)
		}
		if follows(t, c.laid(c.spoilt(l))) {
			right++
		}
		follows(t, strings.Join(c.spoilt(l), ""))
	}
	if right < 1000 || right > 19000 {
		t.Error(right)
	}
	for range 200 {
		follows(t, c.laid(c.tokens(c.rules(mostRules+2))))
	}
}

// P10.1: rules that are written down are read as they were.
func TestRulesAreReadAsWritten(t *testing.T) {
	c := chance(101)
	for range 20000 {
		x := c.rules(6)
		has(t, c.laid(c.tokens(x)), x.Default, x.L...)
		if t.Failed() {
			return
		}
	}
}

// both are the rules of one text with those of another behind them, and its tokens.
func both(c *chance, x, y api.Rules) (api.Rules, []string) {
	l := c.tokens(x)
	for _, r := range y.L {
		l = append(l, c.ruleTokens(r)...)
	}
	return api.Rules{Default: x.Default, L: slices.Concat(x.L, y.L)}, l
}

// behind is the place of the token behind so many of a text's ;.
func behind(text string, n int) int {
	tokens, _, _ := lex.All(text)
	for i, token := range tokens {
		if token.Text == ";" {
			n--
		}
		if n == 0 {
			return tokens[i+1].At
		}
	}
	return -1
}

// P10.3: rules of one text, behind those of another one's, are all of both, if there is room; else the first that has
// none is wrong.
func TestTheoremOfTwoTexts(t *testing.T) {
	c := chance(103)
	for range 5000 {
		x, l := both(&c, c.rules(5), c.rules(5))
		has(t, c.laid(l), x.Default, x.L...)
		if t.Failed() {
			return
		}
	}
	texts := []string{"default kill;", "default errno 7; log a; # note\n", "default log; allow a, b when arg0 < 3;\n",
		"default log;" + strings.Repeat("log a;", 32), "default log;" + strings.Repeat("trap 3 b when arg1 == 2;", 33),
		"default log;" + strings.Repeat("kill a;", 63), "default log;" + strings.Repeat("kill a;", mostRules)}
	for _, one := range texts {
		for _, two := range texts {
			_, rules, _ := strings.Cut(two, ";")
			x, _, _ := Parse(one)
			y, _, _ := Parse(two)
			if len(x.L)+len(y.L) <= mostRules {
				has(t, one+rules, x.Default, slices.Concat(x.L, y.L)...)
				continue
			}
			fails(t, one+rules, wrongLong, behind(one+rules, 1+mostRules))
		}
	}
}

// P10.3: a text that is cut ahead of its last ; is none, whatever stood behind it; and so it is wherever else it is cut
// behind the ; ahead of that, and another token. (A ; in a note is no token.)
func TestTheoremOfCuts(t *testing.T) {
	c := chance(1033)
	texts := []string{"default kill;", "default errno 7 ; # a;b\n", "default log; allow a, b when arg0 < 3;\n#;"}
	for range 3000 {
		texts = append(texts, c.laid(c.tokens(c.rules(3))))
	}
	for _, text := range texts {
		tokens, _, _ := lex.All(text)
		last := len(tokens) - 2
		if _, wrong, _ := Parse(text); wrong != 0 || tokens[last].Text != ";" {
			t.Fatalf("%q: %d", text, wrong)
		}
		for i := last; i > 0 && tokens[i-1].Text != ";"; i-- {
			fails(t, text[:tokens[i].At], wrongSyntax, tokens[i].At)
		}
	}
}

// R1: with an error there are no rules, whatever was read ahead of it; and no field has more than the words give it.
func TestNothingBesideErrors(t *testing.T) {
	for _, text := range []string{"default errno 7; allow a, b when arg0 == 1; kill", "default errno 7 5",
		"default errno 7; 05", "default log; " + strings.Repeat("allow a;", mostRules+1)} {
		if x, wrong, at := Parse(text); wrong == 0 || at < 0 || x.Default != (api.Act{}) || len(x.L) != 0 {
			t.Errorf("%.50q: %v, %d, %d", text, x, wrong, at)
		}
	}
	x, _, _ := Parse("default kill; allow a;")
	if x.Default.Arg != 0 || x.L[0].Act.Arg != 0 || len(x.L[0].Conds) != 0 {
		t.Error(x)
	}
	if x, _, _ := Parse("default kill;"); len(x.L) != 0 {
		t.Error(x)
	}
}

// R3: rules share no bytes with the text, and their lists none with each other.
func TestNothingIsShared(t *testing.T) {
	b := []byte("default errno 7; allow read, write when arg0 & 5 == 1 and arg1 < 2; trap 5 open, close; kill z;")
	text := unsafe.String(&b[0], len(b))
	x, _, _ := Parse(text)
	want, _, _ := slow(strings.Clone(text))
	for i := range b {
		b[i] = 'y'
	}
	if !same(x, want) {
		t.Errorf("the text's own bytes were kept: %v", x)
	}
	for i := range x.L {
		_ = append(x.L[i].Names, "more", "and", "more")
		_ = append(x.L[i].Conds, cond(1, 1, 1, 1), cond(2, 2, 2, 2), cond(3, 3, 3, 3))
	}
	_ = append(x.L, api.Rule{}, api.Rule{})
	if !same(x, want) {
		t.Errorf("lists lie in each other: %v", x)
	}

	again := "default log; kill a when arg0 == 1;"
	y, _, _ := Parse(again)
	y.L[0].Names[0], y.L[0].Conds[0], y.L[0].Act = "b", api.Cond{}, api.Act{}
	has(t, again, act(api.Log, 0), rule(act(api.Kill, 0), "a", cond(0, api.Eq, all, 1)))
}

// R4: what is answered hangs on nothing asked before.
func TestNothingIsKept(t *testing.T) {
	texts := []string{"", "default kill;", "default errno 65536;", "default log; allow a", "05",
		"default log; trap 7 a, b;", "default log; " + strings.Repeat("allow a;", mostRules),
		"default log; " + strings.Repeat("allow a;", mostRules+1),
		"default log; kill a when arg0 == 1;", "default log; kill a when arg6 == 1;", strings.Repeat("a", mostText+1)}
	for _, text := range texts {
		want, wrong, at := Parse(text)
		for _, other := range texts {
			Parse(other)
			if x, again, place := Parse(text); again != wrong || place != at || !same(x, want) {
				t.Errorf("%.20q behind %.20q: %v, %d, %d", text, other, x, again, place)
			}
		}
	}
}

// P0: no text makes a panic, whatever its bytes are.
func TestAnyBytes(t *testing.T) {
	c := chance(1000)
	for range 20000 {
		b := make([]byte, c.below(20))
		for i := range b {
			b[i] = byte(c.below(256))
		}
		follows(t, string(b))
		follows(t, "default kill; "+string(b))
		follows(t, "default kill; log a when arg0 "+string(b))
	}
}
