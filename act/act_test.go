package act

import (
	"math"
	"slices"
	"testing"

	"fairlead/api"
)

// row is one of the chapter's table.
type row struct {
	kind   int
	number uint32
	arg    bool
}

// table is the chapter's, written out here once more as numbers, so that the tests do not hang on the program's own.
var table = []row{
	{1, 0x80000000, false},
	{2, 0x00000000, false},
	{3, 0x00030000, true},
	{4, 0x00050000, true},
	{5, 0x7fc00000, false},
	{6, 0x7ff00000, true},
	{7, 0x7ffc0000, false},
	{8, 0x7fff0000, false},
}

const (
	kill   = 0x80000000
	thread = 0x00000000
	trap   = 0x00030000
	errno  = 0x00050000
	notify = 0x7fc00000
	trace  = 0x7ff00000
	logged = 0x7ffc0000
	allow  = 0x7fff0000
)

// strangers are numbers that are no act's, with and without last 16 bits: about each act's number, with the highest bit,
// and at the ends of numbers.
func strangers() []uint32 {
	return []uint32{
		0x12340000, 0x1234abcd, 0x80010000, 0x8001ffff, 0x80030000, 0x80050000, 0x8005000d, 0xffc00000, 0xfff00000,
		0xfffc0000, 0xffff0000, 0xffffffff, 0x7ffe0000, 0x7ffd0000, 0x7ffb0000, 0x7ff10000, 0x7fef0000, 0x7fc10000,
		0x7fbf0000, 0x7ffe8000, 0x00010000, 0x0001ffff, 0x00020000, 0x0002ffff, 0x00040000, 0x0004ffff,
		0x00060000, 0x0006000d, 0x00070000, 0x00080000, 0x40000000, 0xc0000000, 0xc000003e, 0x00010003,
	}
}

// lasts are some last 16 bits, 0 among them.
var lasts = []uint32{0, 1, 2, 9, 13, 0x7fff, 0x8000, 0x8001, 0xfffe, 0xffff}

// answers are each act's number, and numbers that are no act's, all with several last bits.
func answers() []uint32 {
	l := strangers()
	for _, r := range table {
		for _, last := range lasts {
			l = append(l, r.number+last)
		}
	}
	return l
}

// slowRight follows the words of what an act may be.
func slowRight(a api.Act) bool {
	for _, r := range table {
		if r.kind == a.Kind && r.arg {
			return 0 <= a.Arg && a.Arg <= 65535
		}
		if r.kind == a.Kind {
			return a.Arg == 0
		}
	}
	return false
}

// slowOf follows the words of P7.1.
func slowOf(v uint32) api.Act {
	last := v % 65536
	for _, r := range table {
		if r.number == v-last && r.arg {
			return api.Act{Kind: r.kind, Arg: int(last)}
		}
		if r.number == v-last {
			return api.Act{Kind: r.kind}
		}
	}
	return api.Act{Kind: 1}
}

// slowMost follows the words of P7.2: it seeks the kind that forbids most first, and then the first answer of it.
func slowMost(l []uint32) uint32 {
	for _, r := range table {
		for _, v := range l {
			if slowOf(v).Kind == r.kind {
				return v
			}
		}
	}
	return 0x7fff0000
}

// chance is a row of numbers that look scattered, and are the same at each run of the tests.
type chance uint64

func (c *chance) below(n int) int {
	*c = *c*6364136223846793005 + 1442695040888963407
	return int(uint64(*c>>33) % uint64(n))
}

// list is one of so many answers, none of which forbids more than the least kind of some: else nearly all lists would
// begin with what forbids most.
func (c *chance) list(n int) []uint32 {
	all := answers()
	least := 1 + c.below(8)
	var l []uint32
	for len(l) < n {
		if v := all[c.below(len(all))]; slowOf(v).Kind >= least {
			l = append(l, v)
		}
	}
	return l
}

// lists are scattered ones of many lengths, none among them.
func lists() [][]uint32 {
	c := chance(7)
	var all [][]uint32
	for round := range 3000 {
		all = append(all, c.list(round%13))
	}
	return append(all, c.list(4096))
}

func head(l []uint32) []uint32 { return l[:min(len(l), 12)] }

// The kinds are api's, in the order in which they forbid.
func TestKindsAreNamed(t *testing.T) {
	named := []int{api.Kill, api.Thread, api.Trap, api.Errno_, api.Notify, api.Trace, api.Log, api.Allow}
	for at, r := range table {
		if named[at] != r.kind || at+1 != r.kind {
			t.Errorf("the kind %d is api's %d", r.kind, named[at])
		}
	}
}

// P7.1 to P7.2: the chapter's examples, and those of the whole.
func TestExamples(t *testing.T) {
	if v, e := Value(api.Act{Kind: api.Errno_, Arg: 13}); v != 0x0005000d || e != api.OK {
		t.Errorf("Value(Errno_ 13) = %#x, %d", v, e)
	}
	if a := Of(0x7fff0009); a != (api.Act{Kind: api.Allow}) {
		t.Error("Of(0x7fff0009) =", a)
	}
	if a := Of(0x12340000); a != (api.Act{Kind: api.Kill}) {
		t.Error("Of(0x12340000) =", a)
	}
	if v := Most(allow, errno+1, errno+2); v != errno+1 {
		t.Errorf("Most(Allow, Errno_ 1, Errno_ 2) = %#x", v)
	}
	if v := Most(); v != allow {
		t.Errorf("Most() = %#x", v)
	}
	if v := Most(allow, logged); v != logged {
		t.Errorf("Most(Allow, Log) = %#x", v)
	}
}

// P7.1: each kind with each Arg that is at an edge, in numbers written out.
func TestArgs(t *testing.T) {
	wrong := []int{-1, -2, -13, -65535, -65536, 65536, 65537, 65536 + 13, 131072, math.MaxInt32, math.MinInt32, math.MaxInt,
		math.MinInt, math.MinInt + 13}
	for _, r := range table {
		for _, arg := range []int{0, 1, 2, 13, 255, 256, 32767, 32768, 65534, 65535} {
			may := r.arg || arg == 0
			a := api.Act{Kind: r.kind, Arg: arg}
			if Right(a) != may {
				t.Errorf("Right(%v) = %v", a, !may)
			}
			want, fault := r.number+uint32(arg), api.OK
			if !may {
				want, fault = 0, api.ErrArg
			}
			if v, e := Value(a); v != want || e != fault {
				t.Errorf("Value(%v) = %#x, %d, not %#x, %d", a, v, e, want, fault)
			}
		}
		for _, arg := range wrong {
			mayNotBe(t, api.Act{Kind: r.kind, Arg: arg})
		}
	}
}

func mayNotBe(t *testing.T, a api.Act) {
	t.Helper()
	if Right(a) {
		t.Errorf("Right(%v) = true", a)
	}
	if v, e := Value(a); v != 0 || e != api.ErrArg {
		t.Errorf("Value(%v) = %#x, %d", a, v, e)
	}
}

// P7.1: Kinds that there are not, whatever the Arg.
func TestKindsThatThereAreNot(t *testing.T) {
	kinds := []int{0, 9, -1, -2, -4, -8, 10, 11, 16, 256 + 4, 65536 + 4, 1<<30 + 4, math.MaxInt32, math.MinInt32,
		math.MaxInt, math.MinInt, math.MinInt + 4, math.MinInt + 8}
	for _, kind := range kinds {
		for _, arg := range []int{0, 1, 13, 65535, 65536, -1, math.MaxInt, math.MinInt} {
			mayNotBe(t, api.Act{Kind: kind, Arg: arg})
		}
	}
	mayNotBe(t, api.Act{})
}

// P7.1: all Kinds and Args about the edges, by the document's words.
func TestActsFollowTheWords(t *testing.T) {
	for kind := -20; kind <= 20; kind++ {
		for _, about := range []int{0, 256, 32768, 65536, 131072} {
			for arg := about - 5; arg <= about+5; arg++ {
				a := api.Act{Kind: kind, Arg: arg}
				_, e := Value(a)
				if may := slowRight(a); Right(a) != may || (e == api.OK) != may {
					t.Errorf("Right(%v) = %v, and Value's error is %d", a, Right(a), e)
				}
			}
		}
	}
}

// P7.1: each act's number, alone and with last 16 bits.
func TestOfNumbers(t *testing.T) {
	for _, r := range table {
		for _, last := range lasts {
			want := api.Act{Kind: r.kind}
			if r.arg {
				want.Arg = int(last)
			}
			if a := Of(r.number + last); a != want {
				t.Errorf("Of(%#x) = %v, not %v", r.number+last, a, want)
			}
		}
	}
}

// P7.1: what is no act's number is Kill, and has no Arg.
func TestOfStrangers(t *testing.T) {
	for _, v := range strangers() {
		if a := Of(v); a != (api.Act{Kind: 1}) {
			t.Errorf("Of(%#x) = %v", v, a)
		}
	}
}

// P7.1: every number of the first 16 bits, with several last ones; seven of them alone are not Kill.
func TestOfFollowsTheWords(t *testing.T) {
	others := 0
	for high := range uint32(1 << 16) {
		for _, last := range lasts {
			v := high<<16 | last
			if a := Of(v); a != slowOf(v) {
				t.Fatalf("Of(%#x) = %v, not %v", v, a, slowOf(v))
			}
		}
		if Of(high<<16).Kind != api.Kill {
			others++
		}
	}
	if others != 7 {
		t.Error("numbers of other acts than Kill:", others)
	}
}

// P7.1: every last 16 bits of every act's number.
func TestOfAllLastBits(t *testing.T) {
	for _, r := range table {
		for last := range uint32(1 << 16) {
			if a := Of(r.number | last); a != slowOf(r.number|last) {
				t.Fatalf("Of(%#x) = %v", r.number|last, a)
			}
		}
	}
}

// P7.2: lists with the answers written out.
func TestMost(t *testing.T) {
	samples := []struct {
		l    []uint32
		want uint32
	}{
		{nil, allow},
		{[]uint32{}, allow},
		{[]uint32{allow}, allow},
		{[]uint32{allow + 9}, allow + 9},
		{[]uint32{allow + 9, allow}, allow + 9},
		{[]uint32{allow, allow + 9}, allow},
		{[]uint32{errno + 2, errno + 1, errno + 3}, errno + 2},
		{[]uint32{trap + 7, errno, trap + 1, trap}, trap + 7},
		{[]uint32{trace + 65535, trace, allow, trace + 1}, trace + 65535},
		{[]uint32{logged + 5, logged, logged + 9}, logged + 5},
		{[]uint32{notify + 1, notify}, notify + 1},
		{[]uint32{thread + 3, thread}, thread + 3},
		{[]uint32{kill + 3, kill, kill + 1}, kill + 3},
		{[]uint32{thread, kill}, kill},
		{[]uint32{kill, thread}, kill},
		{[]uint32{trap, thread}, thread},
		{[]uint32{0x12340000}, 0x12340000},
		{[]uint32{0x1234abcd}, 0x1234abcd},
		{[]uint32{0xffffffff}, 0xffffffff},
		{[]uint32{allow, 0x1234abcd}, 0x1234abcd},
		{[]uint32{thread, 0xffffffff}, 0xffffffff},
		{[]uint32{0x12340001, 0x12340000, 0xffffffff}, 0x12340001},
		{[]uint32{kill, 0x12340000}, kill},
		{[]uint32{0x12340000, kill}, 0x12340000},
		{[]uint32{allow, 0x00010000, kill, 0x00020000}, 0x00010000},
		{[]uint32{allow, kill + 7, 0x00020000, kill}, kill + 7},
		{[]uint32{allow, logged, trace, notify, errno, trap, thread, kill}, kill},
		{[]uint32{allow, logged, trace + 1, notify, errno + 2, trap + 3}, trap + 3},
	}
	for _, s := range samples {
		if v := Most(s.l...); v != s.want {
			t.Errorf("Most(%#x) = %#x, not %#x", s.l, v, s.want)
		}
	}
}

// P7.2: of two answers the one whose kind is less, and of two of one kind the first, though its number be greater.
func TestMostOfTwo(t *testing.T) {
	for _, v := range answers() {
		if got := Most(v); got != v {
			t.Errorf("Most(%#x) = %#x", v, got)
		}
		for _, w := range answers() {
			want := v
			if slowOf(w).Kind < slowOf(v).Kind {
				want = w
			}
			if got := Most(v, w); got != want {
				t.Errorf("Most(%#x, %#x) = %#x", v, w, got)
			}
		}
	}
}

// P7.2: one answer that forbids most, at every place of a list of others.
func TestMostAtEveryPlace(t *testing.T) {
	for at := range 40 {
		l := slices.Repeat([]uint32{allow, logged + 1, trace + 2}, 14)
		l[at] = errno + uint32(at)
		if v := Most(l...); v != errno+uint32(at) {
			t.Errorf("at %d: %#x", at, v)
		}
	}
}

// P7.2: scattered lists, by the document's words.
func TestMostFollowsTheWords(t *testing.T) {
	for _, l := range lists() {
		if v := Most(l...); v != slowMost(l) {
			t.Fatalf("Most(%#x ..) = %#x, not %#x", head(l), v, slowMost(l))
		}
	}
}

// P7.3: Of(Value(a)) is a, of every act that may be.
func TestTheoremOfActs(t *testing.T) {
	count := 0
	for kind := 0; kind <= 9; kind++ {
		for arg := -1; arg <= 65536; arg++ {
			a := api.Act{Kind: kind, Arg: arg}
			if !slowRight(a) {
				continue
			}
			count++
			if v, e := Value(a); e != api.OK || Of(v) != a {
				t.Fatalf("Value(%v) = %#x, %d, and Of that %v", a, v, e, Of(v))
			}
		}
	}
	if count != 5+3*65536 {
		t.Error("acts that may be:", count)
	}
}

// What Of tells may be, whatever the number; and no two acts have one number.
func TestOfTellsWhatMayBe(t *testing.T) {
	for _, v := range answers() {
		if a := Of(v); !Right(a) {
			t.Errorf("Of(%#x) = %v", v, a)
		}
	}
	seen := map[uint32]api.Act{}
	for _, r := range table {
		for _, arg := range lasts {
			a := api.Act{Kind: r.kind, Arg: int(arg)}
			v, e := Value(a)
			if other, twice := seen[v]; e == api.OK && twice {
				t.Errorf("%v and %v are both %#x", a, other, v)
			}
			if e == api.OK {
				seen[v] = a
			}
		}
	}
}

// P7.3: nothing in a list forbids more than what Most tells, and that is in the list.
func TestTheoremOfMost(t *testing.T) {
	for _, l := range lists() {
		if len(l) == 0 {
			continue
		}
		most := Most(l...)
		if !slices.Contains(l, most) {
			t.Fatalf("Most(%#x ..) = %#x, which is not in it", head(l), most)
		}
		for _, v := range l {
			if Of(v).Kind < Of(most).Kind {
				t.Fatalf("Most(%#x ..) = %#x, but %#x forbids more", head(l), most, v)
			}
		}
	}
}

// P7.3: of two lists, one behind the other, Most is that of both of theirs.
func TestTheoremOfTwoLists(t *testing.T) {
	all := lists()
	for at := range len(all) - 1 {
		one, two := all[at], all[at+1]
		if len(one) == 0 || len(two) == 0 {
			continue
		}
		whole, parts := Most(slices.Concat(one, two)...), Most(Most(one...), Most(two...))
		if whole != parts {
			t.Fatalf("Most(%#x .., %#x ..) = %#x, and of both %#x", head(one), head(two), whole, parts)
		}
	}
}

// P7.3 asks that neither list be empty: an Allow with last bits is told as it is, behind an empty list too.
func TestEmptyListsChangeNothing(t *testing.T) {
	for _, l := range lists() {
		want := Most(l...)
		if v := Most(slices.Concat(nil, l)...); v != want {
			t.Errorf("behind an empty list: %#x, not %#x", v, want)
		}
		if v := Most(slices.Concat(l, []uint32{})...); v != want {
			t.Errorf("with an empty list behind: %#x, not %#x", v, want)
		}
	}
	if v := Most(slices.Concat(nil, []uint32{allow + 9})...); v != allow+9 {
		t.Errorf("%#x", v)
	}
	if v := Most(Most(), Most(allow+9)); v != allow {
		t.Errorf("of both: %#x", v)
	}
}

// P0: a list of very many answers is gone through to its end.
func TestMostOfVeryMany(t *testing.T) {
	l := slices.Repeat([]uint32{allow}, 1<<20)
	l[len(l)-1] = logged + 1
	if v := Most(l...); v != logged+1 {
		t.Errorf("%#x", v)
	}
}

// R3: a list that is handed in stays as it is, and so does what stands behind it in its memory.
func TestListsStayAsTheyAre(t *testing.T) {
	for _, l := range lists() {
		whole := append(slices.Clone(l), 0x80000001, 0x00000002)
		before := slices.Clone(whole)
		want := slowMost(l)
		if v := Most(whole[:len(l)]...); v != want {
			t.Fatalf("Most(%#x ..) = %#x, not %#x", head(l), v, want)
		}
		if !slices.Equal(whole, before) {
			t.Fatalf("Most changed %#x .. to %#x ..", head(before), head(whole))
		}
	}
}

// R4: what is answered hangs on nothing asked before.
func TestNothingIsKept(t *testing.T) {
	for range 3 {
		Most(kill, thread)
		Value(api.Act{Kind: 99})
		if v := Most(allow+1, allow); v != allow+1 {
			t.Errorf("Most = %#x", v)
		}
		if v, e := Value(api.Act{Kind: api.Trap, Arg: 5}); v != trap+5 || e != api.OK {
			t.Errorf("Value = %#x, %d", v, e)
		}
		if a := Of(trace + 3); a != (api.Act{Kind: api.Trace, Arg: 3}) {
			t.Error("Of =", a)
		}
	}
}
