package arq

import (
	"math"
	"math/rand"
	"slices"
	"testing"

	"fairlead/api"
	"fairlead/frame"
	"fairlead/link"
	"fairlead/msg"
)

// The document's numbers, written out.
const (
	fewest = 1
	most   = 1000
)

// edges are ids at which something could go astray, rising.
var edges = []uint64{
	0, 1, 2, 3, 255, 256, math.MaxInt32, math.MaxInt32 + 1, math.MaxUint32, math.MaxUint32 + 1, 1 << 53, 1<<53 + 1,
	math.MaxInt64, math.MaxInt64 + 1, math.MaxInt64 + 2, math.MaxUint64 - 1, math.MaxUint64,
}

// scattered are so many unlike ids, in no order, the same each time.
func scattered(many int, seed int64) []uint64 {
	chance := rand.New(rand.NewSource(seed))
	ids := slices.Clone(edges[:min(many, len(edges))])
	for len(ids) < many {
		if id := chance.Uint64() >> chance.Intn(50); !slices.Contains(ids, id) {
			ids = append(ids, id)
		}
	}
	chance.Shuffle(many, func(i, j int) { ids[i], ids[j] = ids[j], ids[i] })
	return ids
}

// risen is a list of the same ids, rising, and a list of its own: it is put together one by one.
func risen(ids []uint64) []uint64 {
	var l []uint64
	for _, id := range ids {
		at := 0
		for at < len(l) && l[at] < id {
			at++
		}
		l = slices.Insert(l, at, id)
	}
	return l
}

func mustNew(t *testing.T, every int, ids ...uint64) *Timers {
	t.Helper()
	x, wrong := New(every)
	if x == nil || wrong != api.OK {
		t.Fatal(every, wrong)
	}
	for _, id := range ids {
		x.Set(id)
	}
	return x
}

// ticks fails if a timer goes off at one of so many ticks.
func ticks(t *testing.T, x *Timers, many int) {
	t.Helper()
	for n := range many {
		if l := x.Tick(); len(l) != 0 {
			t.Fatalf("at the tick %d of %d %d go off", n+1, many, l)
		}
	}
}

// off fails if others than these go off at the next tick.
func off(t *testing.T, x *Timers, ids ...uint64) {
	t.Helper()
	if l := x.Tick(); !slices.Equal(l, ids) {
		t.Fatalf("%d go off, not %d", l, ids)
	}
}

// are fails if others than these are set.
func are(t *testing.T, x *Timers, ids ...uint64) {
	t.Helper()
	if l := x.Ids(); !slices.Equal(l, ids) {
		t.Fatalf("%d are set, not %d", l, ids)
	}
}

// timer is one that is set, and the tick behind which it was.
type timer struct {
	id    uint64
	since int
}

// words are timers by the theorem's words: the ticks are counted, and each timer knows since when it is set.
type words struct {
	every, now int
	set        []timer
}

func (w *words) stop(id uint64) bool {
	for at, s := range w.set {
		if s.id == id {
			w.set = slices.Delete(w.set, at, at+1)
			return true
		}
	}
	return false
}

func (w *words) begin(id uint64) {
	w.stop(id)
	w.set = append(w.set, timer{id, w.now})
}

func (w *words) tick() []uint64 {
	w.now++
	var l []uint64
	for _, s := range w.set {
		if (w.now-s.since)%w.every == 0 {
			l = append(l, s.id)
		}
	}
	return risen(l)
}

func (w *words) ids() []uint64 {
	var l []uint64
	for _, s := range w.set {
		l = append(l, s.id)
	}
	return risen(l)
}

// What is done with timers.
const (
	doSet = iota
	doStop
	doTick
)

// step is a call of timers.
type step struct {
	do int
	id uint64
}

// pair are timers and those by the words, that are asked the same.
type pair struct {
	t       *testing.T
	x       *Timers
	w       words
	told    map[bool]int // how often one was set, when it was stopped
	several int          // at how many ticks more than one went off
}

func newPair(t *testing.T, every int) *pair {
	return &pair{t, mustNew(t, every), words{every: every}, map[bool]int{}, 0}
}

func (p *pair) do(s step) {
	p.t.Helper()
	switch s.do {
	case doSet:
		p.x.Set(s.id)
		p.w.begin(s.id)
	case doStop:
		got, want := p.x.Stop(s.id), p.w.stop(s.id)
		p.told[want]++
		if got != want {
			p.t.Fatalf("Stop(%d): %v", s.id, got)
		}
	case doTick:
		want := p.w.tick()
		if len(want) > 1 {
			p.several++
		}
		off(p.t, p.x, want...)
	}
}

// end asks what is set in the end, and lets all of it go off once more.
func (p *pair) end() {
	p.t.Helper()
	are(p.t, p.x, p.w.ids()...)
	for range p.w.every {
		p.do(step{do: doTick})
	}
	are(p.t, p.x, p.w.ids()...)
}

// P19.1 to P19.3: the chapter's examples.
func TestExamples(t *testing.T) {
	x := mustNew(t, 2, 7)
	off(t, x)
	x.Set(3)
	off(t, x, 7)
	off(t, x, 3)
	if !x.Stop(7) {
		t.Error("it was set")
	}
	off(t, x)
	are(t, x, 3)
	var s Seen
	if !s.Take(5) || s.Take(5) {
		t.Error("5 is new just once")
	}
}

// sent lays a message in a row, as a frame.
func sent(t *testing.T, l *link.Link, up bool, m api.Msg) {
	t.Helper()
	body, wrong := msg.Encode(m)
	f, wrong2 := frame.Frame(body)
	if wrong != 0 || wrong2 != 0 || !l.Send(up, f) {
		t.Fatal(m, wrong, wrong2)
	}
}

// come are all messages that a row has.
func come(t *testing.T, l *link.Link, up bool) []api.Msg {
	t.Helper()
	var r frame.Reader
	for l.Len(up) > 0 {
		b, _ := l.Take(up, 0)
		r.Feed(b)
	}
	var all []api.Msg
	for {
		body, is := r.Next()
		if !is {
			return all
		}
		m, wrong := msg.Decode(body)
		if wrong != 0 {
			t.Fatal(body, wrong)
		}
		all = append(all, m)
	}
}

// P19.2 and P19.3: of the examples 6 and 7 of the whole what is sent again, and what has come already: an open that waits as
// the ID 7 is lost, comes thrice in the end, and its answer twice.
func TestExamplesOfTheWhole(t *testing.T) {
	l, x := &link.Link{}, mustNew(t, 3)
	open := api.Msg{Kind: api.MsgNotify, Epoch: 1, ID: 7, Task: 1, Data: api.Data{Nr: 2, Arch: api.Arch}, Path: "/f"}
	answer := api.Msg{Kind: api.MsgFd, Epoch: 1, ID: 7, Val: 100}
	sent(t, l, true, open)
	x.Set(open.ID)
	if !l.Drop(0) {
		t.Fatal("nothing was sent")
	}
	for n := 1; n <= 9; n++ {
		for _, id := range x.Tick() {
			if n%3 != 0 || id != 7 {
				t.Error("at the tick", n, "the ID", id, "is sent again")
			}
			sent(t, l, true, open)
		}
	}
	var asked, answered Seen
	var first []bool
	for _, m := range come(t, l, true) {
		first = append(first, asked.Take(m.ID))
	}
	if !slices.Equal(first, []bool{true, false, false}) || asked.Many() != 1 {
		t.Error("what comes is new:", first)
	}
	sent(t, l, false, answer)
	if !l.Twice(0) {
		t.Fatal("no room")
	}
	for n, m := range come(t, l, false) {
		if m != answer || answered.Take(m.ID) != (n == 0) || x.Stop(m.ID) != (n == 0) || answered.Many() != 1 {
			t.Errorf("the answer %d, %#v, is another one's, or changes something", n, m)
		}
	}
	ticks(t, x, 7)
	are(t, x)
}

// P19.1: numbers of ticks that may not be: ErrArg, and no timers.
func TestNewThatMayNotBe(t *testing.T) {
	wrongs := []int{
		math.MinInt, math.MinInt + 1, math.MinInt + most, math.MinInt32, -most - 1, -most, -fewest, 0, most + 1, most + 2, 2 * most,
		1 << 16, 1<<16 + 1, math.MaxInt32, math.MaxInt32 + 1, 1 << 32, 1<<32 + 1, 1<<32 + most, math.MaxInt - 1, math.MaxInt,
	}
	for n := -3000; n <= 5000; n++ {
		if n < fewest || n > most {
			wrongs = append(wrongs, n)
		}
	}
	for _, n := range wrongs {
		if x, wrong := New(n); x != nil || wrong != 1 {
			t.Errorf("New(%d): %v, %d", n, x, wrong)
		}
	}
}

// P19.1, P19.2: of timers with each number of ticks that may be none is set; one that is set goes off behind so many, and again.
func TestNewThatMay(t *testing.T) {
	for every := fewest; every <= most; every++ {
		x := mustNew(t, every)
		are(t, x)
		ticks(t, x, 2)
		x.Set(5)
		are(t, x, 5)
		for range 2 {
			ticks(t, x, every-1)
			off(t, x, 5)
		}
	}
}

// P19.1: a timer that is set waits anew when it is set again, after any of its ticks, and however often.
func TestSetAnew(t *testing.T) {
	for _, every := range []int{1, 2, 3, 7, 1000} {
		for gone := range every {
			if every == 1000 && gone%111 != 0 {
				continue
			}
			x := mustNew(t, every, 9)
			ticks(t, x, gone)
			for range 3 {
				x.Set(9)
				x.Set(9)
				are(t, x, 9)
				ticks(t, x, gone)
			}
			x.Set(9)
			ticks(t, x, every-1)
			off(t, x, 9)
			ticks(t, x, every-1)
			off(t, x, 9)
		}
	}
}

// P19.1: a timer that is set again and again, ahead of its last tick each time, never goes off; but of 1 tick it does.
func TestSetAnewForever(t *testing.T) {
	x := mustNew(t, 3)
	for range 1000 {
		x.Set(4)
		ticks(t, x, 2)
	}
	x = mustNew(t, 1)
	for range 1000 {
		x.Set(4)
		off(t, x, 4)
	}
}

// P19.1: that one is set leaves the others' ticks as they are, whether it was set or not.
func TestSetLeavesTheOthers(t *testing.T) {
	x := mustNew(t, 5, 10, 20)
	ticks(t, x, 1)
	x.Set(15)
	ticks(t, x, 2)
	x.Set(20)
	x.Set(5)
	ticks(t, x, 1)
	off(t, x, 10)
	off(t, x, 15)
	x.Set(25)
	ticks(t, x, 1)
	off(t, x, 5, 20)
	ticks(t, x, 1)
	off(t, x, 10)
	off(t, x, 15, 25)
	ticks(t, x, 1)
	off(t, x, 5, 20)
}

// P19.1: that one is stopped, or one that is not set, leaves the others' ticks as they are.
func TestStopLeavesTheOthers(t *testing.T) {
	x := mustNew(t, 3, 1, 2)
	ticks(t, x, 1)
	x.Set(3)
	if !x.Stop(2) || x.Stop(4) || x.Stop(0) {
		t.Error("2 alone was set")
	}
	ticks(t, x, 1)
	off(t, x, 1)
	off(t, x, 3)
	if !x.Stop(1) {
		t.Error("1 was set")
	}
	ticks(t, x, 2)
	off(t, x, 3)
}

// P19.1: Stop tells whether a timer was set, each time; of timers of which none is set, of one and of many.
func TestStop(t *testing.T) {
	x := mustNew(t, 2)
	for range 2 {
		for _, id := range edges {
			if x.Stop(id) {
				t.Errorf("%d was not set", id)
			}
		}
		are(t, x)
	}
	for _, id := range edges {
		x.Set(id)
		for _, other := range edges {
			if is := x.Stop(other); is != (id == other) {
				t.Errorf("of %d alone Stop(%d): %v", id, other, is)
			}
		}
		are(t, x)
	}
	x = mustNew(t, 2, edges...)
	for at, id := range edges {
		if !x.Stop(id) || x.Stop(id) || x.Stop(id) {
			t.Errorf("%d was set just till it was stopped", id)
		}
		are(t, x, edges[at+1:]...)
	}
}

// P19.1: a timer is stopped behind any of its ticks: it never goes off, and nobody can stop it again.
func TestStoppedNeverGoesOff(t *testing.T) {
	for _, every := range []int{1, 2, 3, 10} {
		for gone := range 3 * every {
			x := mustNew(t, every, 6)
			for range gone {
				x.Tick()
			}
			if !x.Stop(6) {
				t.Fatal("it was set")
			}
			ticks(t, x, 5*every)
			if x.Stop(6) {
				t.Error("it was stopped")
			}
			are(t, x)
		}
	}
}

// P19.1: a timer that was stopped can be set again, and has all its ticks then.
func TestSetBehindStop(t *testing.T) {
	for _, id := range edges {
		x := mustNew(t, 3, id)
		for gone := range 3 {
			ticks(t, x, gone)
			if !x.Stop(id) {
				t.Fatal("it was set")
			}
			ticks(t, x, gone)
			x.Set(id)
			are(t, x, id)
			ticks(t, x, 2)
			off(t, x, id)
		}
	}
}

// P19.1: Ids are rising, whatever order they were set in, and each is told once, however often it was set.
func TestIdsAreRising(t *testing.T) {
	are(t, mustNew(t, 4))
	for _, id := range edges {
		are(t, mustNew(t, 4, id), id)
		are(t, mustNew(t, 4, id, id, id), id)
	}
	backward := slices.Clone(edges)
	slices.Reverse(backward)
	for _, ids := range [][]uint64{edges, backward, slices.Concat(edges, backward, edges)} {
		are(t, mustNew(t, 4, ids...), edges...)
	}
	for many := range 100 {
		ids := scattered(many, int64(many))
		are(t, mustNew(t, 4, ids...), risen(ids)...)
	}
}

// P19.1: each order of few ids.
func TestIdsInEachOrder(t *testing.T) {
	few := []uint64{0, 1, math.MaxInt64 + 1, math.MaxUint64}
	for order := range 256 {
		x := mustNew(t, 2)
		var ids []uint64
		for range few {
			id := few[order%4]
			order /= 4
			x.Set(id)
			if !slices.Contains(ids, id) {
				ids = append(ids, id)
			}
		}
		are(t, x, risen(ids)...)
		off(t, x)
		off(t, x, risen(ids)...)
	}
}

// P19.1, P19.2: behind each tick the same are set, but for Set and Stop; and Ids, asked however often, changes nothing.
func TestIdsStay(t *testing.T) {
	ids := risen(scattered(40, 3))
	x := mustNew(t, 3, ids...)
	for n := 1; n <= 30; n++ {
		are(t, x, ids...)
		are(t, x, ids...)
		if n%3 == 0 {
			off(t, x, ids...)
		} else {
			off(t, x)
		}
		are(t, x, ids...)
		if n%6 == 0 {
			if !x.Stop(ids[n]) {
				t.Fatal("it was set")
			}
			ids = slices.Delete(ids, n, n+1)
			are(t, x, ids...)
		}
	}
}

// P19.2: Tick of no timers, ahead of the first one and behind the last one; what is set then waits as long as any.
func TestTickOfNone(t *testing.T) {
	for _, every := range []int{1, 2, 3, 1000} {
		x := mustNew(t, every)
		ticks(t, x, 2*every+1)
		x.Set(2)
		ticks(t, x, every-1)
		off(t, x, 2)
		x.Stop(2)
		ticks(t, x, 2*every+1)
		x.Set(1)
		ticks(t, x, every-1)
		off(t, x, 1)
	}
}

// P19.2: those that go off at one tick are told rising, few and many, whatever order they were set in, and at each tick.
func TestSeveralGoOff(t *testing.T) {
	for _, many := range []int{2, 3, 8, 9, 17, 64, 500} {
		ids := scattered(many, int64(many))
		want := risen(ids)
		for _, every := range []int{1, 2, 5} {
			x := mustNew(t, every, ids...)
			for range 4 {
				ticks(t, x, every-1)
				off(t, x, want...)
			}
		}
	}
}

// P19.2: of many just those go off that have no ticks left, and these are told rising.
func TestSomeGoOff(t *testing.T) {
	ids := scattered(60, 8)
	x := mustNew(t, 4)
	var groups [4][]uint64
	for n := range groups {
		groups[n] = risen(ids[15*n : 15*n+15])
		for _, id := range ids[15*n : 15*n+15] {
			x.Set(id)
		}
		if n < 3 {
			ticks(t, x, 1)
		}
	}
	for n := range 40 {
		off(t, x, groups[n%4]...)
	}
	are(t, x, risen(ids)...)
}

// P19.4: a timer goes off just every so many ticks, over many of them.
func TestJustEverySoManyTicks(t *testing.T) {
	for _, every := range []int{1, 2, 3, 10, 999, 1000} {
		for _, id := range []uint64{0, 1, 7, math.MaxUint64} {
			x := mustNew(t, every, id)
			for n := 1; n <= 20*every; n++ {
				var want []uint64
				if n%every == 0 {
					want = []uint64{id}
				}
				off(t, x, want...)
			}
		}
	}
}

// P19.4: of several that are set at unlike ticks each goes off just every so many of its own.
func TestEachGoesOffByItself(t *testing.T) {
	for _, every := range []int{1, 2, 3, 1000} {
		x := mustNew(t, every)
		since := map[uint64]int{}
		for n := range 3*every + 20 {
			if n < 10 {
				since[uint64(100-n)] = n
				x.Set(uint64(100 - n))
			}
			var want []uint64
			for id, at := range since {
				if (n+1-at)%every == 0 {
					want = append(want, id)
				}
			}
			off(t, x, risen(want)...)
		}
	}
}

// P19.1, P19.2: all short rows of steps follow the words.
func TestShortScriptsFollowTheWords(t *testing.T) {
	all := []step{
		{doTick, 0}, {doSet, 0}, {doSet, 1}, {doSet, math.MaxUint64}, {doStop, 0}, {doStop, 1}, {doStop, math.MaxUint64},
	}
	const length = 6
	scripts := 1
	for range length {
		scripts *= len(all)
	}
	for script := range scripts {
		p := newPair(t, 1+script%3)
		for range length {
			p.do(all[script%len(all)])
			script /= len(all)
		}
		p.end()
	}
}

// P19.1, P19.2: scattered steps follow the words, of few timers and of many, of few ticks and of many.
func TestScattered(t *testing.T) {
	told, several := map[bool]int{}, 0
	for seed := range int64(300) {
		chance := rand.New(rand.NewSource(seed))
		p := newPair(t, []int{1, 2, 3, 4, 7, 20, 100, 999, 1000}[seed%9])
		ids := scattered([]int{1, 3, 10, 60}[seed%4], seed)
		for range 500 {
			s := step{doTick, ids[chance.Intn(len(ids))]}
			if at := chance.Intn(10); at < 5 {
				s.do = []int{doSet, doSet, doSet, doStop, doStop}[at]
			}
			p.do(s)
			if chance.Intn(20) == 0 {
				are(t, p.x, p.w.ids()...)
			}
		}
		p.end()
		several += p.several
		for is := range p.told {
			told[is] += p.told[is]
		}
	}
	if told[true] < 1000 || told[false] < 1000 || several < 1000 {
		t.Error("of timers that are stopped", told, "were set, and several go off at", several, "ticks")
	}
}

// P19.3: a Seen is begun as its zero value: nothing was taken, and each id is new.
func TestSeenZero(t *testing.T) {
	var first Seen
	for _, s := range []*Seen{&first, {}, new(Seen)} {
		for range 2 {
			if s.Many() != 0 {
				t.Error("of none", s.Many(), "were taken")
			}
		}
	}
	for _, id := range edges {
		var s Seen
		for n := range 4 {
			if s.Take(id) != (n == 0) || s.Many() != 1 {
				t.Errorf("%d, taken for the time %d: %d were taken", id, n, s.Many())
			}
		}
	}
}

// P19.3: each id is new just once, whatever is taken between; Many counts the unlike ones.
func TestTake(t *testing.T) {
	var s Seen
	for n, id := range edges {
		if !s.Take(id) || s.Many() != n+1 {
			t.Errorf("%d is not new, or %d were taken", id, s.Many())
		}
		for _, old := range edges[:n+1] {
			if s.Take(old) || s.Many() != n+1 {
				t.Errorf("%d is new again, or %d were taken", old, s.Many())
			}
		}
	}
	for _, id := range edges {
		if s.Take(id) || s.Many() != len(edges) {
			t.Errorf("%d is new again, or %d were taken", id, s.Many())
		}
	}
}

// P19.3: ids that have bits in common: each one is another one.
func TestTakeEachBit(t *testing.T) {
	var s Seen
	for bit := range 64 {
		if !s.Take(1<<bit) || !s.Take(math.MaxUint64-1<<bit) || s.Take(1<<bit) || s.Take(math.MaxUint64-1<<bit) {
			t.Errorf("the bit %d is another one's", bit)
		}
	}
	if !s.Take(0) || !s.Take(math.MaxUint64) || s.Many() != 130 {
		t.Error(s.Many(), "were taken")
	}
}

// P19.3: what is new does not hang on the order in which things come: each order of few ids, of which some come twice.
func TestTakeInEachOrder(t *testing.T) {
	few := []uint64{0, 1, 2, math.MaxUint64}
	for order := range 1024 {
		var s Seen
		var taken []uint64
		for range 5 {
			id := few[order%4]
			order /= 4
			if s.Take(id) == slices.Contains(taken, id) {
				t.Fatalf("behind %d %d is told wrongly", taken, id)
			}
			if !slices.Contains(taken, id) {
				taken = append(taken, id)
			}
			if s.Many() != len(taken) {
				t.Fatalf("of %d %d were taken", taken, s.Many())
			}
		}
	}
}

// P19.4: whatever is taken, and however often: each is new just once, in any order, and as many are told as are unlike.
func TestEachIsNewJustOnce(t *testing.T) {
	for seed := range int64(100) {
		chance := rand.New(rand.NewSource(seed))
		ids := scattered(1+chance.Intn(200), seed)
		var s Seen
		isNew := map[uint64]int{}
		var all []uint64
		for range 1 + chance.Intn(5) {
			all = append(all, ids...)
		}
		chance.Shuffle(len(all), func(i, j int) { all[i], all[j] = all[j], all[i] })
		for _, id := range all {
			if s.Take(id) {
				isNew[id]++
			}
			if s.Many() != len(isNew) {
				t.Fatal(s.Many(), "were taken, not", len(isNew))
			}
		}
		for _, id := range ids {
			if isNew[id] != 1 {
				t.Errorf("%d is new %d times", id, isNew[id])
			}
		}
		if len(isNew) != len(ids) {
			t.Error(len(isNew), "are new, not", len(ids))
		}
	}
}

// P19.3: many ids, rising, falling and by leaps.
func TestTakeMany(t *testing.T) {
	const many = 100000
	for _, of := range []func(n uint64) uint64{
		func(n uint64) uint64 { return n },
		func(n uint64) uint64 { return math.MaxUint64 - n },
		func(n uint64) uint64 { return n * 0x9e3779b97f4a7c15 },
		func(n uint64) uint64 { return n << 40 },
	} {
		var s Seen
		for round := range 2 {
			for n := range uint64(many) {
				if s.Take(of(n)) != (round == 0) {
					t.Fatal(of(n), "in the round", round)
				}
			}
			if s.Many() != many {
				t.Fatal(s.Many(), "were taken")
			}
		}
	}
}

// P19.1, P19.2: many timers at once.
func TestManyTimers(t *testing.T) {
	const many = 20000
	x := mustNew(t, 3)
	var want []uint64
	for n := range uint64(many) {
		x.Set((many - 1 - n) << 30)
		want = append(want, n<<30)
	}
	for range 3 {
		ticks(t, x, 2)
		off(t, x, want...)
	}
	are(t, x, want...)
	for n := range uint64(many) {
		if n%2 == 0 && !x.Stop(n<<30) {
			t.Fatal(n<<30, "was set")
		}
	}
	want = slices.DeleteFunc(want, func(id uint64) bool { return id>>30%2 == 0 })
	ticks(t, x, 2)
	off(t, x, want...)
	are(t, x, want...)
}

// R3: what is told is the caller's own: what is done with it changes nothing.
func TestToldIsNotShared(t *testing.T) {
	spoil := func(l []uint64) {
		clear(l[:cap(l)])
		_ = append(l[:0], 99, 98, 97, 96)
	}
	x := mustNew(t, 2, 30, 10, 20)
	for range 5 {
		first, second := x.Ids(), x.Ids()
		spoil(first)
		if !slices.Equal(second, []uint64{10, 20, 30}) {
			t.Errorf("what was told is %d now", second)
		}
		are(t, x, 10, 20, 30)
		spoil(x.Tick())
		gone := x.Tick()
		set := x.Ids()
		spoil(gone)
		if !slices.Equal(set, []uint64{10, 20, 30}) {
			t.Errorf("what was told is %d now", set)
		}
		are(t, x, 10, 20, 30)
	}
}

// R3: what was told stays as it was, whatever is done afterwards.
func TestToldStays(t *testing.T) {
	x := mustNew(t, 1)
	var gone, set [][]uint64
	for n := range uint64(50) {
		x.Set(100 - n)
		gone, set = append(gone, x.Tick()), append(set, x.Ids())
	}
	for n := range uint64(50) {
		x.Stop(100 - n)
		x.Set(n)
		x.Tick()
		x.Ids()
	}
	for n := range gone {
		var want []uint64
		for id := uint64(100 - n); id <= 100; id++ {
			want = append(want, id)
		}
		if !slices.Equal(gone[n], want) || !slices.Equal(set[n], want) {
			t.Errorf("what was told is %d, %d now, not %d", gone[n], set[n], want)
		}
	}
}

// R4: timers have nothing in common with others, of the same number of ticks or of another one; same calls, same answers.
func TestTimersStandAlone(t *testing.T) {
	a, b, c := mustNew(t, 2, 1, 2), mustNew(t, 2, 2, 3), mustNew(t, 3)
	off(t, a)
	if a.Stop(3) || b.Stop(1) || c.Stop(1) || !a.Stop(2) {
		t.Error("what is set of one is set of the other")
	}
	are(t, b, 2, 3)
	are(t, c)
	c.Set(2)
	off(t, a, 1)
	off(t, b)
	off(t, b, 2, 3)
	ticks(t, c, 2)
	off(t, c, 2)
	are(t, a, 1)
	for range 20 {
		ids := scattered(30, 5)
		x, y := mustNew(t, 2, ids...), mustNew(t, 2, ids...)
		if !slices.Equal(x.Ids(), y.Ids()) || len(x.Tick())+len(y.Tick()) != 0 || !slices.Equal(x.Tick(), y.Tick()) {
			t.Fatal("the same calls are answered in two ways")
		}
	}
}

// R4: what one Seen has taken is new to another one, and to those of timers it is nothing.
func TestSeenStandAlone(t *testing.T) {
	var a, b Seen
	x := mustNew(t, 1, 8)
	for _, id := range edges {
		if !a.Take(id) {
			t.Errorf("%d is not new", id)
		}
	}
	if b.Many() != 0 {
		t.Error(b.Many(), "were taken of none")
	}
	for n, id := range edges {
		if !b.Take(id) || b.Many() != n+1 || a.Take(id) || a.Many() != len(edges) {
			t.Errorf("%d is taken of both", id)
		}
	}
	off(t, x, 8)
	if !a.Take(8) || !b.Take(8) {
		t.Error("a timer is taken")
	}
}

// P0: calls at all arguments end, in any order.
func TestAllCallsEnd(t *testing.T) {
	for _, every := range []int{math.MinInt, -1, 0, 1, 2, 999, 1000, 1001, math.MaxInt} {
		x, wrong := New(every)
		if wrong != api.OK {
			continue
		}
		var s Seen
		for _, id := range edges {
			for _, other := range edges {
				x.Stop(id)
				x.Tick()
				x.Set(other)
				s.Take(id)
				s.Take(other)
				x.Set(id)
				x.Tick()
				if x.Stop(id); x.Stop(id) || len(x.Ids()) > len(edges) || s.Many() > len(edges) {
					t.Fatal(id, other)
				}
			}
		}
	}
}

// What timers keep is what is set, not what ever was.
func TestNothingMoreIsKept(t *testing.T) {
	x := mustNew(t, 5)
	for n := range uint64(10000) {
		x.Set(n)
		x.Set(n)
		x.Tick()
		if n >= 10 && !x.Stop(n-10) {
			t.Fatal(n-10, "was set")
		}
		if x.Stop(n + 1) {
			t.Fatal(n+1, "was set")
		}
		if len(x.left) != len(x.Ids()) || len(x.left) > 10 {
			t.Fatal(len(x.left), "are kept")
		}
	}
}
