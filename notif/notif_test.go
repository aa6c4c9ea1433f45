package notif

import (
	"math"
	"math/rand"
	"slices"
	"testing"

	"fairlead/api"
	"fairlead/fds"
	"fairlead/msg"
)

// The document's numbers, written out.
const (
	errArg   = 1
	errFull  = 16
	errNone  = 17
	errState = 18
	errBusy  = 21
	errOld   = 22

	isInit    = 1
	isSent    = 2
	isReplied = 3
	isGone    = 4

	outGo      = 1
	outErrno   = 2
	outFd      = 3
	outKill    = 4
	outTimeout = 6
	outNosys   = 7

	greatest = math.MaxUint64
)

// both are sent and not.
var both = []bool{true, false}

// edges are IDs, and epochs, at which something could go astray, rising.
var edges = []uint64{
	0, 1, 2, 3, 7, 255, 256, math.MaxInt32, math.MaxInt32 + 1, math.MaxUint32, math.MaxUint32 + 1, 1 << 53, 1<<53 + 1,
	math.MaxInt64 - 1, math.MaxInt64, math.MaxInt64 + 1, greatest - 9, greatest - 2, greatest - 1, greatest,
}

// ints are numbers at which something could go astray.
var ints = []int{
	math.MinInt, math.MinInt + 1, math.MinInt + 4, math.MinInt32, -1000, -8, -4, -1, 0, 5, 9, 10, 12, 16, 255, 256, 257, 1001, 1 << 16,
	1<<16 + 1, math.MaxInt32, math.MaxInt32 + 1, math.MaxUint32, 1 << 32, 1<<32 + 1, 1<<32 + 4, math.MaxInt - 1, math.MaxInt,
}

// noTasks are numbers that are no tasks.
func noTasks() []int { return slices.Concat(ints, []int{6, 7, 8, -2, -3}) }

// noKinds are Kinds of Out that no Reply may have.
func noKinds() []int { return slices.Concat(ints, []int{4, 6, 7, 8, -2, -3}) }

func mustNew(t *testing.T, size, wait int, first uint64) *Table {
	t.Helper()
	x, wrong := New(size, wait, first)
	if x == nil || wrong != 0 {
		t.Fatalf("New(%d, %d, %d): %d", size, wait, first, wrong)
	}
	return x
}

// adds lets tasks wait, whose IDs are to be these on.
func adds(t *testing.T, x *Table, first uint64, tasks ...int) {
	t.Helper()
	for n, task := range tasks {
		if id, wrong := x.Add(task); id != first+uint64(n) || wrong != 0 {
			t.Fatalf("Add(%d): %d, %d, not %d", task, id, wrong, first+uint64(n))
		}
	}
}

// addsNot fails if a task is let wait, or another error is told.
func addsNot(t *testing.T, x *Table, task int, want api.Errno) {
	t.Helper()
	if id, wrong := x.Add(task); id != 0 || wrong != want {
		t.Fatalf("Add(%d): %d, %d, not 0, %d", task, id, wrong, want)
	}
}

// sends fails if others than these are sent next.
func sends(t *testing.T, x *Table, ids ...uint64) {
	t.Helper()
	for _, id := range ids {
		was, _ := x.Get(id)
		was.State = isSent
		if e, is := x.Send(); !is || e.ID != id || e != was {
			t.Fatalf("Send: %v, %v, not %v", e, is, was)
		}
	}
}

// sendsNone fails if there is something to be sent.
func sendsNone(t *testing.T, x *Table) {
	t.Helper()
	if e, is := x.Send(); is || e != (api.Entry{}) {
		t.Fatalf("Send: %v, %v", e, is)
	}
}

// replies fails if a Reply of the table's epoch is not taken.
func replies(t *testing.T, x *Table, id uint64, kind, val int) {
	t.Helper()
	if wrong := x.Reply(x.Epoch(), id, api.Out{Kind: kind, Val: val}); wrong != 0 {
		t.Fatalf("Reply(%d, %d, %d): %d", id, kind, val, wrong)
	}
}

// ticks fails if one goes at one of so many ticks.
func ticks(t *testing.T, x *Table, many int) {
	t.Helper()
	for n := range many {
		if l := x.Tick(); len(l) != 0 {
			t.Fatalf("at the tick %d of %d %d go", n+1, many, l)
		}
	}
}

// goes fails if others than these go at the next tick.
func goes(t *testing.T, x *Table, ids ...uint64) {
	t.Helper()
	if l := x.Tick(); !slices.Equal(l, ids) {
		t.Fatalf("%d go, not %d", l, ids)
	}
}

// rises fails if a new epoch does not begin.
func rises(t *testing.T, x *Table, epoch uint64) {
	t.Helper()
	if wrong := x.Rise(epoch); wrong != 0 || x.Epoch() != epoch {
		t.Fatalf("Rise(%d): %d, and the epoch is %d", epoch, wrong, x.Epoch())
	}
}

// ended fails if what is taken out of a task is another one.
func ended(t *testing.T, x *Table, want api.Entry) {
	t.Helper()
	if e, is := x.Ended(want.Task); !is || e != want {
		t.Fatalf("Ended(%d): %v, %v, not %v", want.Task, e, is, want)
	}
}

// endedNot fails if something is taken out of a task.
func endedNot(t *testing.T, x *Table, task int) {
	t.Helper()
	if e, is := x.Ended(task); is || e != (api.Entry{}) {
		t.Fatalf("Ended(%d): %v, %v", task, e, is)
	}
}

// entry is a notification that has no Out.
func entry(id uint64, task, state, left int) api.Entry {
	return api.Entry{ID: id, Task: task, State: state, Left: left}
}

// endedAs is a notification that has ended.
func endedAs(id uint64, task, state, left, kind, val int) api.Entry {
	return api.Entry{ID: id, Task: task, State: state, Left: left, Out: api.Out{Kind: kind, Val: val}}
}

// holds fails if a table has not just these notifications, or is of another epoch.
func holds(t *testing.T, x *Table, epoch uint64, want ...api.Entry) {
	t.Helper()
	if x.Len() != len(want) || x.Epoch() != epoch {
		t.Fatalf("there are %d of the epoch %d, not %d of %d", x.Len(), x.Epoch(), len(want), epoch)
	}
	has := func(id uint64) bool { return slices.ContainsFunc(want, func(e api.Entry) bool { return e.ID == id }) }
	others := edges
	for _, w := range want {
		if e, is := x.Get(w.ID); !is || e != w || x.Valid(w.ID) != (w.State == isSent) {
			t.Fatalf("of %d there is %v, %v, Valid %v, not %v", w.ID, e, is, x.Valid(w.ID), w)
		}
		others = append(slices.Clip(others), w.ID-1, w.ID+1, w.ID+256, w.ID+1<<32, ^w.ID)
	}
	for _, id := range others {
		if e, is := x.Get(id); !has(id) && (is || e != (api.Entry{}) || x.Valid(id)) {
			t.Fatalf("of %d there is %v, %v, Valid %v", id, e, is, x.Valid(id))
		}
	}
}

// way is one in which a notification ends.
type way struct {
	name      string
	sent      bool // it was Sent ahead
	end       func(x *Table, e api.Entry)
	state     int
	kind, val int
}

// ways are all of them.
func ways() []way {
	reply := func(kind, val int) way {
		answer := func(x *Table, e api.Entry) { x.Reply(x.Epoch(), e.ID, api.Out{Kind: kind, Val: val}) }
		return way{"Reply", true, answer, isReplied, kind, val}
	}
	l := []way{reply(outGo, 0), reply(outErrno, 13), reply(outFd, 3), reply(outErrno, 0), reply(outFd, -1), reply(outGo, 5)}
	for _, sent := range both {
		l = append(l,
			way{"Kill", sent, func(x *Table, e api.Entry) { x.Kill(e.Task) }, isGone, outKill, 0},
			way{"Rise", sent, func(x *Table, e api.Entry) { x.Rise(x.Epoch() + 1) }, isGone, outNosys, 0},
			way{"Drop", sent, func(x *Table, e api.Entry) { x.Drop() }, isGone, outNosys, 0},
			way{"Tick", sent, func(x *Table, e api.Entry) {
				for range e.Left {
					x.Tick()
				}
			}, isGone, outTimeout, 0},
		)
	}
	return l
}

// by is a table of the size 2, the wait 9, the first ID 30 and the epoch 4, whose only notification, that of the task, ended
// by a way behind two ticks; and that notification.
func by(t *testing.T, w way, task int) (*Table, api.Entry) {
	t.Helper()
	x := mustNew(t, 2, 9, 30)
	rises(t, x, 4)
	adds(t, x, 30, task)
	ticks(t, x, 1)
	if w.sent {
		sends(t, x, 30)
	}
	ticks(t, x, 1)
	e, _ := x.Get(30)
	w.end(x, e)
	e = endedAs(30, task, w.state, 7, w.kind, w.val)
	if w.kind == outTimeout {
		e.Left = 0
	}
	return x, e
}

// P21.1 to P21.6: the chapter's examples.
func TestExamples(t *testing.T) {
	x := mustNew(t, 2, 3, 7)
	adds(t, x, 7, 1)
	addsNot(t, x, 1, errBusy)
	adds(t, x, 8, 2)
	addsNot(t, x, 3, errFull)
	if wrong := x.Reply(0, 7, api.Out{Kind: outGo}); wrong != errState {
		t.Error(wrong)
	}
	if e, is := x.Send(); !is || e != entry(7, 1, isSent, 3) {
		t.Error(e, is)
	}
	if wrong := x.Reply(0, 7, api.Out{Kind: outGo}); wrong != 0 {
		t.Error(wrong)
	}
	ended(t, x, endedAs(7, 1, isReplied, 3, outGo, 0))
	ticks(t, x, 2)
	goes(t, x, 8)
	holds(t, x, 0, endedAs(8, 2, isGone, 0, outTimeout, 0))
}

// whole is what the examples of the whole speak of: the calls that wait, and the files of the task 1.
type whole struct {
	t     *testing.T
	x     *Table
	files *fds.Table
}

// over is a message as it comes over a link.
func (w whole) over(m api.Msg) api.Msg {
	w.t.Helper()
	b, wrong := msg.Encode(m)
	told, wrong2 := msg.Decode(b)
	if wrong != 0 || wrong2 != 0 {
		w.t.Fatal(m, wrong, wrong2)
	}
	return told
}

// asks is what the supervisor hears, when it asks whether one is there still.
func (w whole) asks(epoch, id uint64) int {
	m := w.over(api.Msg{Kind: api.MsgAsk, Epoch: epoch, ID: id})
	is := api.Msg{Kind: api.MsgIs, Epoch: m.Epoch, ID: m.ID}
	if w.x.Valid(m.ID) {
		is.Val = 1
	}
	return w.over(is).Val
}

// answers lets MsgFd come. A file is laid only for one that is Sent.
func (w whole) answers(epoch, id uint64) api.Errno {
	m := w.over(api.Msg{Kind: api.MsgFd, Epoch: epoch, ID: id, Val: 100})
	fd := 0
	if m.Epoch == w.x.Epoch() && w.x.Valid(m.ID) {
		fd, _ = w.files.Install(m.Val)
	}
	return w.x.Reply(m.Epoch, m.ID, api.Out{Kind: api.OutFd, Val: fd})
}

// newWhole has an open of the task 1 that waits as the ID 7, and was sent.
func newWhole(t *testing.T) whole {
	t.Helper()
	w := whole{t, mustNew(t, 4, 5, 7), fds.New()}
	rises(t, w.x, 1)
	adds(t, w.x, 7, 1)
	e, is := w.x.Send()
	open := api.Msg{Kind: api.MsgNotify, Epoch: w.x.Epoch(), ID: e.ID, Task: e.Task, Data: api.Data{Nr: 2, Arch: api.Arch}, Path: "/f"}
	if m := w.over(open); !is || m.ID != 7 || m.Task != 1 || m.Epoch != 1 {
		t.Fatal(is, m)
	}
	return w
}

// P21.2 to P21.7: the examples 6 and 7 of the whole: OutFd 3, and nothing else if the answer comes again, ahead of Ended and
// behind it.
func TestAnswerOfTheWhole(t *testing.T) {
	w := newWhole(t)
	if w.asks(1, 7) != 1 || w.asks(1, 8) != 0 {
		t.Error("the supervisor hears another thing")
	}
	if wrong := w.answers(1, 7); wrong != 0 {
		t.Error(wrong)
	}
	want := endedAs(7, 1, isReplied, 5, outFd, 3)
	for range 2 {
		holds(t, w.x, 1, want)
		if wrong := w.answers(1, 7); wrong != errState || w.asks(1, 7) != 0 {
			t.Error(wrong)
		}
	}
	ended(t, w.x, want)
	if wrong := w.answers(1, 7); wrong != errNone || w.asks(1, 7) != 0 || w.files.Len() != 4 {
		t.Error(wrong, w.files.Len())
	}
	holds(t, w.x, 1)
	adds(t, w.x, 8, 1)
	if wrong := w.answers(1, 7); wrong != errNone {
		t.Error(wrong)
	}
	holds(t, w.x, 1, entry(8, 1, isInit, 5))
}

// P21.5, P21.7: the example 8 of the whole: the task is killed while the answer is under way: OutKill.
func TestKillOfTheWhole(t *testing.T) {
	w := newWhole(t)
	if w.asks(1, 7) != 1 || !w.x.Kill(1) {
		t.Error("it does not wait")
	}
	want := endedAs(7, 1, isGone, 5, outKill, 0)
	holds(t, w.x, 1, want)
	if wrong := w.answers(1, 7); wrong != errState || w.asks(1, 7) != 0 || w.files.Len() != 3 {
		t.Error(wrong, w.files.Len())
	}
	ended(t, w.x, want)
}

// P21.5, P21.7: the example 9 of the whole: OutNosys; behind MsgHello calls wait again, in the epoch 2.
func TestCrashOfTheWhole(t *testing.T) {
	w := newWhole(t)
	w.x.Drop()
	want := endedAs(7, 1, isGone, 5, outNosys, 0)
	holds(t, w.x, 1, want)
	ended(t, w.x, want)
	rises(t, w.x, w.over(api.Msg{Kind: api.MsgHello, Epoch: 2}).Epoch)
	adds(t, w.x, 8, 1)
	sends(t, w.x, 8)
	for _, id := range []uint64{7, 8} {
		if wrong := w.answers(1, id); wrong != errOld {
			t.Error(wrong)
		}
	}
	holds(t, w.x, 2, entry(8, 1, isSent, 5))
	if wrong := w.answers(2, 7); wrong != errNone {
		t.Error(wrong)
	}
	if wrong := w.answers(2, 8); wrong != 0 {
		t.Error(wrong)
	}
	ended(t, w.x, endedAs(8, 1, isReplied, 5, outFd, 3))
}

// P21.1: sizes and waits that may not be, one of them or both: ErrArg, and no table.
func TestNewThatMayNotBe(t *testing.T) {
	sizes := slices.Concat([]int{0, 9, 11, 13, 100, 264}, noTasks())
	sizes = slices.DeleteFunc(sizes, func(n int) bool { return 1 <= n && n <= 8 })
	waits := slices.Concat([]int{0, 1001, 1002, 2000, 1<<16 + 1000}, ints)
	waits = slices.DeleteFunc(waits, func(n int) bool { return 1 <= n && n <= 1000 })
	none := func(size, wait int) {
		for _, first := range []uint64{0, 7, greatest} {
			if x, wrong := New(size, wait, first); x != nil || wrong != errArg {
				t.Errorf("New(%d, %d, %d): %v, %d", size, wait, first, x, wrong)
			}
		}
	}
	for _, size := range sizes {
		for _, wait := range []int{1, 2, 8, 999, 1000} {
			none(size, wait)
		}
		for _, wait := range waits {
			none(size, wait)
		}
	}
	for _, wait := range waits {
		for size := 1; size <= 8; size++ {
			none(size, wait)
		}
	}
}

// P21.1: each size and wait that may be, with any first ID: nothing is there, and the epoch is 0.
func TestNewThatMay(t *testing.T) {
	for size := 1; size <= 8; size++ {
		for _, wait := range []int{1, 2, 3, 8, 9, 10, 255, 256, 257, 999, 1000} {
			for _, first := range edges {
				x := mustNew(t, size, wait, first)
				holds(t, x, 0)
				sendsNone(t, x)
				goes(t, x)
				for task := 1; task <= 4; task++ {
					endedNot(t, x, task)
				}
				if wrong := x.Reply(0, first, api.Out{Kind: outGo}); wrong != errNone {
					t.Fatal(wrong)
				}
				holds(t, x, 0)
			}
		}
	}
	for wait := 1; wait <= 1000; wait++ {
		x := mustNew(t, 1, wait, 3)
		adds(t, x, 3, 2)
		holds(t, x, 0, entry(3, 2, isInit, wait))
	}
}

// P21.2: the first ID is `first`, and each next one is 1 more: also where the one before was taken out.
func TestFirst(t *testing.T) {
	for _, first := range edges {
		if first == greatest {
			continue
		}
		x := mustNew(t, 1, 2, first)
		adds(t, x, first, 4)
		holds(t, x, 0, entry(first, 4, isInit, 2))
		x.Drop()
		ended(t, x, endedAs(first, 4, isGone, 2, outNosys, 0))
		if first < greatest-1 {
			adds(t, x, first+1, 4)
			holds(t, x, 0, entry(first+1, 4, isInit, 2))
		}
	}
}

// P21.2: each task may wait, in each order, and has the next ID, Init, `wait` ticks and no Out.
func TestAdd(t *testing.T) {
	for order := range 256 {
		tasks := []int{1 + order%4, 1 + order/4%4, 1 + order/16%4, 1 + order/64}
		if len(slices.Compact(slices.Sorted(slices.Values(tasks)))) < 4 {
			continue
		}
		for _, first := range []uint64{0, 7, math.MaxInt64 - 1, greatest - 4} {
			x := mustNew(t, 4+order%5, 6, first)
			var want []api.Entry
			for n, task := range tasks {
				adds(t, x, first+uint64(n), task)
				want = append(want, entry(first+uint64(n), task, isInit, 6))
				holds(t, x, 0, want...)
			}
			for _, task := range tasks {
				addsNot(t, x, task, errBusy)
			}
			holds(t, x, 0, want...)
		}
	}
}

// P21.2: numbers that are no tasks: ErrArg, of an empty table, of one with room and of a full one, and where there is no ID
// left; nothing has changed.
func TestAddOfNoTask(t *testing.T) {
	for _, task := range noTasks() {
		x := mustNew(t, 2, 5, greatest-2)
		addsNot(t, x, task, errArg)
		holds(t, x, 0)
		adds(t, x, greatest-2, 1)
		addsNot(t, x, task, errArg)
		adds(t, x, greatest-1, 4)
		addsNot(t, x, task, errArg)
		holds(t, x, 0, entry(greatest-2, 1, isInit, 5), entry(greatest-1, 4, isInit, 5))
		x.Drop()
		ended(t, x, endedAs(greatest-2, 1, isGone, 5, outNosys, 0))
		addsNot(t, x, task, errArg)
		addsNot(t, x, 1, errFull)
	}
}

// P21.2: a task of which there is one, Init, Sent or ended by any way: ErrBusy; where the table is full too, and where there
// is no ID left; nothing has changed.
func TestAddOfBusy(t *testing.T) {
	for task := 1; task <= 4; task++ {
		for size := 1; size <= 8; size++ {
			for _, first := range []uint64{5, greatest - 2, greatest - 1} {
				x := mustNew(t, size, 5, first)
				adds(t, x, first, task)
				addsNot(t, x, task, errBusy)
				holds(t, x, 0, entry(first, task, isInit, 5))
				sends(t, x, first)
				addsNot(t, x, task, errBusy)
				holds(t, x, 0, entry(first, task, isSent, 5))
				sendsNone(t, x)
				replies(t, x, first, outGo, 0)
				addsNot(t, x, task, errBusy)
				holds(t, x, 0, endedAs(first, task, isReplied, 5, outGo, 0))
			}
		}
		for _, w := range ways() {
			x, e := by(t, w, task)
			epoch := x.Epoch()
			addsNot(t, x, task, errBusy)
			holds(t, x, epoch, e)
			adds(t, x, 31, task%4+1)
			addsNot(t, x, task, errBusy)
			holds(t, x, epoch, e, entry(31, task%4+1, isInit, 9))
		}
	}
}

// P21.2: as many as size says, waiting or ended: ErrFull; one that is taken out makes room, one that has ended does not.
func TestAddToFull(t *testing.T) {
	for size := 1; size <= 3; size++ {
		for _, w := range ways() {
			x := mustNew(t, size, 9, 60)
			var want []api.Entry
			for n := range size {
				adds(t, x, 60+uint64(n), 1+n)
				want = append(want, entry(60+uint64(n), 1+n, isInit, 9))
			}
			full := func() {
				t.Helper()
				for task := size + 1; task <= 4; task++ {
					addsNot(t, x, task, errFull)
				}
				for task := 1; task <= size; task++ {
					addsNot(t, x, task, errBusy)
				}
			}
			full()
			holds(t, x, 0, want...)
			if w.sent {
				sends(t, x, 60)
			}
			full()
			first, _ := x.Get(60)
			w.end(x, first)
			full()
			if _, is := x.Ended(1); !is || x.Len() != size-1 {
				t.Fatal("the first one has not ended by", w.name)
			}
			adds(t, x, 60+uint64(size), 4)
			addsNot(t, x, 1, errFull)
		}
	}
}

// P21.2: with room for 4 or more all tasks wait at once.
func TestAddAllTasks(t *testing.T) {
	for size := 4; size <= 8; size++ {
		x := mustNew(t, size, 3, 1)
		adds(t, x, 1, 1, 2, 3, 4)
		for task := 1; task <= 4; task++ {
			addsNot(t, x, task, errBusy)
		}
		addsNot(t, x, 5, errArg)
		holds(t, x, 0, entry(1, 1, isInit, 3), entry(2, 2, isInit, 3), entry(3, 3, isInit, 3), entry(4, 4, isInit, 3))
	}
}

// P21.2: no ID is 2^64 - 1: ErrFull, however often, whatever else is done; 2^64 - 2 is the last one.
func TestAddTheLastID(t *testing.T) {
	for _, first := range []uint64{greatest, greatest - 1, greatest - 2, greatest - 3, greatest - 4} {
		for size := 4; size <= 8; size++ {
			x := mustNew(t, size, 2, first)
			var want []api.Entry
			for id := first; id < greatest; id++ {
				task := len(want) + 1
				adds(t, x, id, task)
				want = append(want, entry(id, task, isInit, 2))
			}
			for range 3 {
				for task := 4; task > len(want); task-- {
					addsNot(t, x, task, errFull)
				}
				holds(t, x, 0, want...)
			}
			x.Drop()
			for _, e := range want {
				e.State, e.Out.Kind = isGone, outNosys
				ended(t, x, e)
			}
			for task := 1; task <= 4; task++ {
				addsNot(t, x, task, errFull)
			}
			rises(t, x, 1)
			addsNot(t, x, 1, errFull)
			holds(t, x, 1)
		}
	}
}

// P21.2: an error takes no ID: the next one is that which would have come.
func TestErrorsTakeNoID(t *testing.T) {
	x := mustNew(t, 1, 5, 8)
	adds(t, x, 8, 1)
	for range 10 {
		addsNot(t, x, 0, errArg)
		addsNot(t, x, 1, errBusy)
		addsNot(t, x, 2, errFull)
		holds(t, x, 0, entry(8, 1, isInit, 5))
	}
	x.Drop()
	ended(t, x, endedAs(8, 1, isGone, 5, outNosys, 0))
	adds(t, x, 9, 2)
}

// P21.3: of none: nothing is sent; of one: it, once; of several the least ID first, each once.
func TestSend(t *testing.T) {
	for _, first := range []uint64{0, 7, 254, math.MaxInt64 - 2, greatest - 4} {
		for many := range 5 {
			for range 20 {
				x := mustNew(t, 8, 6, first)
				sendsNone(t, x)
				var want []api.Entry
				for n := range many {
					adds(t, x, first+uint64(n), 4-n)
					want = append(want, entry(first+uint64(n), 4-n, isInit, 6))
				}
				for n := range want {
					holds(t, x, 0, want...)
					want[n].State = isSent
					if e, is := x.Send(); !is || e != want[n] {
						t.Fatalf("Send: %v, %v, not %v", e, is, want[n])
					}
				}
				sendsNone(t, x)
				sendsNone(t, x)
				holds(t, x, 0, want...)
			}
		}
	}
}

// P21.3: what was sent, or has ended, is not sent; of each choice of four just the others are, the least ID first.
func TestSendOfWhatIsInit(t *testing.T) {
	for choice := range 16 {
		for range 10 {
			x := mustNew(t, 4, 6, 10)
			adds(t, x, 10, 3, 1, 4, 2)
			var left []uint64
			for n, task := range []int{3, 1, 4, 2} {
				if choice>>n&1 == 0 {
					left = append(left, 10+uint64(n))
				} else if !x.Kill(task) {
					t.Fatal("it waits")
				}
			}
			sends(t, x, left...)
			sendsNone(t, x)
		}
	}
	for _, w := range ways() {
		x, e := by(t, w, 2)
		sendsNone(t, x)
		adds(t, x, 31, 1)
		sends(t, x, 31)
		sendsNone(t, x)
		holds(t, x, x.Epoch(), e, entry(31, 1, isSent, 9))
	}
}

// P21.3: what is let wait behind a Send is sent next, though others were sent already; Left is what it is then.
func TestSendBetween(t *testing.T) {
	x := mustNew(t, 4, 6, 1)
	adds(t, x, 1, 1)
	ticks(t, x, 2)
	adds(t, x, 2, 2)
	ticks(t, x, 1)
	for _, want := range []api.Entry{entry(1, 1, isSent, 3), entry(2, 2, isSent, 5)} {
		if e, is := x.Send(); !is || e != want {
			t.Errorf("%v, not %v", e, want)
		}
	}
	sendsNone(t, x)
	adds(t, x, 3, 3)
	if e, is := x.Send(); !is || e != entry(3, 3, isSent, 6) {
		t.Error(e, is)
	}
	holds(t, x, 0, entry(1, 1, isSent, 3), entry(2, 2, isSent, 5), entry(3, 3, isSent, 6))
}

// P21.3: Valid of one that is Init, Sent, Replied, Gone and taken out, and of IDs that never were.
func TestValid(t *testing.T) {
	is := func(x *Table, id uint64, want bool) {
		t.Helper()
		for range 2 {
			if x.Valid(id) != want {
				t.Errorf("Valid(%d): %v", id, !want)
			}
		}
	}
	for _, first := range edges[:len(edges)-1] {
		x := mustNew(t, 1, 5, first)
		for _, id := range edges {
			is(x, id, false)
		}
		adds(t, x, first, 1)
		is(x, first, false)
		sends(t, x, first)
		is(x, first, true)
		for _, id := range slices.Concat(edges, []uint64{first - 1, first + 1, ^first}) {
			is(x, id, id == first)
		}
		replies(t, x, first, outGo, 0)
		is(x, first, false)
		ended(t, x, endedAs(first, 1, isReplied, 5, outGo, 0))
		is(x, first, false)
	}
	for _, w := range ways() {
		x, e := by(t, w, 3)
		is(x, 30, false)
		ended(t, x, e)
		is(x, 30, false)
	}
}

// P21.4: each Kind that may be, with any Val: OK, Replied, and that Out; once.
func TestReply(t *testing.T) {
	for _, kind := range []int{outGo, outErrno, outFd} {
		for _, val := range slices.Concat(ints, []int{1, 2, 3, 4, 13, 100, 4095, 4096}) {
			x := mustNew(t, 3, 5, 70)
			adds(t, x, 70, 1, 2, 3)
			sends(t, x, 70, 71)
			ticks(t, x, 1)
			out := api.Out{Kind: kind, Val: val}
			if wrong := x.Reply(0, 71, out); wrong != 0 {
				t.Fatalf("Reply(%v): %d", out, wrong)
			}
			want := endedAs(71, 2, isReplied, 4, kind, val)
			holds(t, x, 0, entry(70, 1, isSent, 4), want, entry(72, 3, isInit, 4))
			if wrong := x.Reply(0, 71, api.Out{Kind: outErrno, Val: 9}); wrong != errState {
				t.Errorf("a second Reply: %d", wrong)
			}
			ended(t, x, want)
			holds(t, x, 0, entry(70, 1, isSent, 4), entry(72, 3, isInit, 4))
		}
	}
}

// P21.4: Replies come in each order of IDs.
func TestReplyInEachOrder(t *testing.T) {
	for order := range 24 {
		ids := []uint64{5, 6, 7, 8}
		x := mustNew(t, 4, 5, 5)
		adds(t, x, 5, 1, 2, 3, 4)
		sends(t, x, ids...)
		for len(ids) > 0 {
			at := order % len(ids)
			order /= len(ids)
			id := ids[at]
			ids = slices.Delete(ids, at, at+1)
			replies(t, x, id, outFd, int(id))
			ended(t, x, endedAs(id, int(id-4), isReplied, 5, outFd, int(id)))
		}
		holds(t, x, 0)
	}
}

// P21.4: Kinds that may not be: ErrArg, nothing has changed, and a Reply that may be is taken then.
func TestReplyOfKindsThatMayNotBe(t *testing.T) {
	for _, kind := range noKinds() {
		for _, val := range []int{0, 3, -1} {
			x := mustNew(t, 1, 5, 7)
			adds(t, x, 7, 1)
			sends(t, x, 7)
			for range 2 {
				if wrong := x.Reply(0, 7, api.Out{Kind: kind, Val: val}); wrong != errArg {
					t.Errorf("Reply of the Kind %d: %d", kind, wrong)
				}
				holds(t, x, 0, entry(7, 1, isSent, 5))
			}
			sendsNone(t, x)
			replies(t, x, 7, outFd, 3)
			ended(t, x, endedAs(7, 1, isReplied, 5, outFd, 3))
		}
	}
}

// P21.4: of another epoch, less and greater, by one and by much: ErrOld, and nothing has changed.
func TestReplyOfAnotherEpoch(t *testing.T) {
	for _, epoch := range edges {
		x := mustNew(t, 1, 5, 7)
		if epoch > 0 {
			rises(t, x, epoch)
		}
		adds(t, x, 7, 1)
		sends(t, x, 7)
		for _, other := range slices.Concat(edges, []uint64{epoch - 1, epoch + 1, epoch + 256, epoch + 1<<32, ^epoch}) {
			if other == epoch {
				continue
			}
			for _, id := range []uint64{7, other, epoch} {
				if wrong := x.Reply(other, id, api.Out{Kind: outGo}); wrong != errOld {
					t.Errorf("of the epoch %d Reply(%d, %d): %d", epoch, other, id, wrong)
				}
			}
			holds(t, x, epoch, entry(7, 1, isSent, 5))
		}
		if wrong := x.Reply(epoch, 7, api.Out{Kind: outGo}); wrong != 0 {
			t.Error(wrong)
		}
	}
}

// P21.4: of IDs that are not there: that never were, that are still to come, and that were taken out: ErrNone.
func TestReplyOfNone(t *testing.T) {
	x := mustNew(t, 2, 5, 7)
	adds(t, x, 7, 1, 2)
	sends(t, x, 7, 8)
	replies(t, x, 7, outGo, 0)
	ended(t, x, endedAs(7, 1, isReplied, 5, outGo, 0))
	for _, id := range slices.Concat(edges, []uint64{6, 7, 9, 8 + 256, 8 + 1<<32, 1}) {
		if wrong := x.Reply(0, id, api.Out{Kind: outGo}); id != 8 && wrong != errNone {
			t.Errorf("Reply(%d): %d", id, wrong)
		}
		holds(t, x, 0, entry(8, 2, isSent, 5))
	}
	for _, w := range ways() {
		x, e := by(t, w, 1)
		ended(t, x, e)
		adds(t, x, 31, 1)
		sends(t, x, 31)
		if wrong := x.Reply(x.Epoch(), 30, api.Out{Kind: outGo}); wrong != errNone {
			t.Errorf("behind %s: %d", w.name, wrong)
		}
		holds(t, x, x.Epoch(), entry(31, 1, isSent, 9))
	}
}

// P21.4: of one that is Init, Replied or Gone: ErrState, and nothing has changed.
func TestReplyOfWhatIsNotSent(t *testing.T) {
	for _, kind := range []int{outGo, outErrno, outFd, 0, outKill} {
		x := mustNew(t, 2, 5, 7)
		adds(t, x, 7, 1, 2)
		sends(t, x, 7)
		if wrong := x.Reply(0, 8, api.Out{Kind: kind, Val: 1}); wrong != errState {
			t.Error(wrong)
		}
		holds(t, x, 0, entry(7, 1, isSent, 5), entry(8, 2, isInit, 5))
		sends(t, x, 8)
		for _, w := range ways() {
			x, e := by(t, w, 1)
			for range 2 {
				if wrong := x.Reply(x.Epoch(), 30, api.Out{Kind: kind, Val: 1}); wrong != errState {
					t.Errorf("behind %s: %d", w.name, wrong)
				}
				holds(t, x, x.Epoch(), e)
			}
		}
	}
}

// P21.4: which error is told where several could be: all choices of an epoch, an ID and a Kind; and with an error nothing has
// changed.
func TestReplyTellsTheFirstError(t *testing.T) {
	want := func(epoch, id uint64, kind int) api.Errno {
		switch {
		case epoch != 3:
			return errOld
		case id < 10 || id == 12 || id > 14:
			return errNone
		case id != 13:
			return errState
		case kind < 1 || kind > 3:
			return errArg
		}
		return 0
	}
	for _, epoch := range []uint64{0, 2, 3, 4, greatest} {
		for _, id := range []uint64{0, 9, 10, 11, 12, 13, 14, 15, greatest} {
			for kind := -1; kind <= 9; kind++ {
				x := mustNew(t, 4, 5, 10)
				rises(t, x, 3)
				adds(t, x, 10, 1, 2, 3, 4)
				sends(t, x, 10, 11, 12, 13)
				replies(t, x, 10, outErrno, 6)
				x.Kill(2)
				x.Kill(3)
				ended(t, x, endedAs(12, 3, isGone, 5, outKill, 0))
				adds(t, x, 14, 3)
				all := []api.Entry{
					endedAs(10, 1, isReplied, 5, outErrno, 6), endedAs(11, 2, isGone, 5, outKill, 0), entry(13, 4, isSent, 5),
					entry(14, 3, isInit, 5),
				}
				if wrong := x.Reply(epoch, id, api.Out{Kind: kind, Val: 8}); wrong != want(epoch, id, kind) {
					t.Errorf("Reply(%d, %d, %d): %d, not %d", epoch, id, kind, wrong, want(epoch, id, kind))
				} else if wrong == 0 {
					all[2] = endedAs(13, 4, isReplied, 5, kind, 8)
				}
				holds(t, x, 3, all...)
			}
		}
	}
}

// P21.5: Kill of one that waits, Init or Sent, behind any of its ticks: true, Gone, OutKill; no other task's.
func TestKill(t *testing.T) {
	for task := 1; task <= 4; task++ {
		for _, sent := range both {
			for gone := range 5 {
				x := mustNew(t, 4, 5, 20)
				adds(t, x, 20, 1, 2, 3, 4)
				state := isInit
				if sent {
					sends(t, x, 20, 21, 22, 23)
					state = isSent
				}
				ticks(t, x, gone)
				var want []api.Entry
				for n := range 4 {
					want = append(want, entry(20+uint64(n), 1+n, state, 5-gone))
				}
				want[task-1] = endedAs(19+uint64(task), task, isGone, 5-gone, outKill, 0)
				if !x.Kill(task) {
					t.Fatal("it waits")
				}
				holds(t, x, 0, want...)
				if x.Kill(task) {
					t.Fatal("it has ended")
				}
				holds(t, x, 0, want...)
				ended(t, x, want[task-1])
			}
		}
	}
}

// P21.5: Kill of one that has ended by any way, of one that is not there, of one that was taken out, and of no task: false,
// and nothing has changed.
func TestKillOfNone(t *testing.T) {
	for _, w := range ways() {
		x, e := by(t, w, 2)
		adds(t, x, 31, 3)
		for _, task := range slices.Concat(noTasks(), []int{1, 2, 4, 2}) {
			if x.Kill(task) {
				t.Errorf("behind %s Kill(%d) tells true", w.name, task)
			}
			holds(t, x, x.Epoch(), e, entry(31, 3, isInit, 9))
		}
		ended(t, x, e)
		if x.Kill(2) || !x.Kill(3) {
			t.Error("another one waits")
		}
		holds(t, x, x.Epoch(), endedAs(31, 3, isGone, 9, outKill, 0))
	}
	x := mustNew(t, 4, 5, 0)
	for _, task := range slices.Concat(noTasks(), []int{1, 2, 3, 4}) {
		if x.Kill(task) {
			t.Errorf("of none Kill(%d) tells true", task)
		}
	}
	holds(t, x, 0)
}

// P21.5: Tick of no notifications, however often: none goes, and what comes then has all its ticks.
func TestTickOfNone(t *testing.T) {
	for _, wait := range []int{1, 2, 1000} {
		x := mustNew(t, 3, wait, 3)
		ticks(t, x, 3*wait)
		holds(t, x, 0)
		adds(t, x, 3, 1)
		holds(t, x, 0, entry(3, 1, isInit, wait))
		ticks(t, x, wait-1)
		goes(t, x, 3)
	}
}

// P21.5, P21.7: one goes just behind as many ticks as `wait` says, whether it was sent, and when; Left is one less each time.
func TestTick(t *testing.T) {
	for _, wait := range []int{1, 2, 3, 10, 999, 1000} {
		for _, sent := range []int{-1, 0, 1, wait / 2, wait - 1} {
			x := mustNew(t, 1, wait, 44)
			adds(t, x, 44, 2)
			state := isInit
			for n := range wait {
				if n == sent {
					sends(t, x, 44)
					state = isSent
				}
				if e, is := x.Get(44); !is || e != entry(44, 2, state, wait-n) {
					t.Fatalf("behind %d ticks of %d: %v", n, wait, e)
				}
				if n < wait-1 {
					goes(t, x)
				}
			}
			goes(t, x, 44)
			want := endedAs(44, 2, isGone, 0, outTimeout, 0)
			for range 3 {
				holds(t, x, 0, want)
				goes(t, x)
			}
			ended(t, x, want)
		}
	}
	for wait := 1; wait <= 1000; wait++ {
		x := mustNew(t, 1, wait, 1)
		adds(t, x, 1, 1)
		ticks(t, x, wait-1)
		goes(t, x, 1)
	}
}

// P21.5: several go at one tick, their IDs rising, whatever task they are of, sent or not.
func TestSeveralGo(t *testing.T) {
	for _, first := range []uint64{0, 7, 254, math.MaxUint32 - 1, math.MaxInt64 - 2, greatest - 4} {
		for many := 1; many <= 4; many++ {
			for _, sent := range []int{0, 1, many} {
				for range 20 {
					x := mustNew(t, 5, 3, first)
					var ids []uint64
					var want []api.Entry
					for n := range many {
						adds(t, x, first+uint64(n), 4-n)
						ids = append(ids, first+uint64(n))
						want = append(want, endedAs(first+uint64(n), 4-n, isGone, 0, outTimeout, 0))
					}
					sends(t, x, ids[:sent]...)
					ticks(t, x, 2)
					goes(t, x, ids...)
					holds(t, x, 0, want...)
					goes(t, x)
				}
			}
		}
	}
}

// P21.5: of several that were let wait at unlike ticks each goes by itself.
func TestEachGoesByItself(t *testing.T) {
	for _, wait := range []int{1, 2, 3, 4, 5, 1000} {
		x := mustNew(t, 4, wait, 50)
		next := uint64(50)
		since := map[uint64]int{}
		for n := range 3*wait + 20 {
			if task := 1 + n%4; n%3 != 2 {
				if id, wrong := x.Add(task); wrong == 0 {
					if id != next {
						t.Fatal(id, next)
					}
					since[id] = n
					next++
				}
			}
			var want []uint64
			for id := uint64(50); id < next; id++ {
				if since[id]+wait == n+1 {
					want = append(want, id)
				}
			}
			goes(t, x, want...)
			for task := 1; task <= 4; task++ {
				x.Ended(task)
			}
		}
		if wait < 1000 && next < 55 {
			t.Error("few waited")
		}
	}
}

// P21.5: one that has ended has no ticks taken, by any way, and does not go again.
func TestTickOfWhatHasEnded(t *testing.T) {
	for _, w := range ways() {
		x, e := by(t, w, 1)
		for range 30 {
			goes(t, x)
			holds(t, x, x.Epoch(), e)
		}
		adds(t, x, 31, 4)
		ticks(t, x, 8)
		goes(t, x, 31)
		holds(t, x, x.Epoch(), e, endedAs(31, 4, isGone, 0, outTimeout, 0))
	}
}

// P21.5: Rise to a greater epoch, by one, by much, and to the greatest: it is the table's, and what waits is Gone.
func TestRise(t *testing.T) {
	for at, from := range edges {
		for _, to := range edges[at+1:] {
			x := mustNew(t, 4, 5, 20)
			if from > 0 {
				rises(t, x, from)
			}
			adds(t, x, 20, 4, 3, 2, 1)
			sends(t, x, 20, 21)
			replies(t, x, 21, outErrno, 5)
			ticks(t, x, 1)
			x.Kill(2)
			rises(t, x, to)
			want := []api.Entry{
				endedAs(20, 4, isGone, 4, outNosys, 0), endedAs(21, 3, isReplied, 5, outErrno, 5),
				endedAs(22, 2, isGone, 4, outKill, 0), endedAs(23, 1, isGone, 4, outNosys, 0),
			}
			holds(t, x, to, want...)
			sendsNone(t, x)
			for _, e := range want {
				ended(t, x, e)
			}
			adds(t, x, 24, 1)
			sends(t, x, 24)
			holds(t, x, to, entry(24, 1, isSent, 5))
		}
	}
}

// P21.5: Rise to the same epoch, or to a less one: ErrOld, and nothing has changed.
func TestRiseToNoGreater(t *testing.T) {
	for at, epoch := range edges {
		x := mustNew(t, 3, 5, 20)
		if epoch > 0 {
			rises(t, x, epoch)
		}
		adds(t, x, 20, 1, 2, 3)
		sends(t, x, 20, 21)
		replies(t, x, 20, outFd, 3)
		for _, to := range slices.Concat(edges[:at+1], []uint64{0, epoch / 2, epoch - min(epoch, 1), epoch}) {
			if wrong := x.Rise(to); wrong != errOld {
				t.Errorf("of the epoch %d Rise(%d): %d", epoch, to, wrong)
			}
			holds(t, x, epoch, endedAs(20, 1, isReplied, 5, outFd, 3), entry(21, 2, isSent, 5), entry(22, 3, isInit, 5))
		}
		replies(t, x, 21, outGo, 0)
		sends(t, x, 22)
	}
}

// P21.5: Drop of none, of some and of all: what waits is Gone, what has ended and the epoch stay; once more changes nothing.
func TestDrop(t *testing.T) {
	for _, epoch := range []uint64{0, 1, 5, greatest} {
		x := mustNew(t, 4, 5, 20)
		if epoch > 0 {
			rises(t, x, epoch)
		}
		x.Drop()
		holds(t, x, epoch)
		adds(t, x, 20, 1, 2, 3, 4)
		sends(t, x, 20, 21)
		replies(t, x, 21, outFd, 3)
		ticks(t, x, 2)
		x.Kill(4)
		want := []api.Entry{
			endedAs(20, 1, isGone, 3, outNosys, 0), endedAs(21, 2, isReplied, 5, outFd, 3),
			endedAs(22, 3, isGone, 3, outNosys, 0), endedAs(23, 4, isGone, 3, outKill, 0),
		}
		for range 3 {
			x.Drop()
			holds(t, x, epoch, want...)
		}
		sendsNone(t, x)
		if wrong := x.Reply(epoch, 20, api.Out{Kind: outGo}); wrong != errState {
			t.Error(wrong)
		}
		for _, e := range want {
			ended(t, x, e)
		}
		adds(t, x, 24, 1)
		sends(t, x, 24)
		replies(t, x, 24, outGo, 0)
	}
}

// P21.5: Rise and Drop leave alone what has ended, by any way.
func TestRiseAndDropOfWhatHasEnded(t *testing.T) {
	for _, w := range ways() {
		x, e := by(t, w, 3)
		adds(t, x, 31, 1)
		epoch := x.Epoch()
		x.Drop()
		holds(t, x, epoch, e, endedAs(31, 1, isGone, 9, outNosys, 0))
		rises(t, x, epoch+1)
		holds(t, x, epoch+1, e, endedAs(31, 1, isGone, 9, outNosys, 0))
		ended(t, x, e)
	}
}

// P21.6: of a task that waits, Init or Sent: none, and it stays.
func TestEndedOfWhatWaits(t *testing.T) {
	for task := 1; task <= 4; task++ {
		x := mustNew(t, 1, 5, 6)
		adds(t, x, 6, task)
		for range 2 {
			endedNot(t, x, task)
			holds(t, x, 0, entry(6, task, isInit, 5))
		}
		sends(t, x, 6)
		ticks(t, x, 4)
		for range 2 {
			endedNot(t, x, task)
			holds(t, x, 0, entry(6, task, isSent, 1))
		}
		goes(t, x, 6)
		ended(t, x, endedAs(6, task, isGone, 0, outTimeout, 0))
	}
}

// P21.6: of one that has ended, by each way: it, once; then there is none of it any more, and its task may wait again.
func TestEnded(t *testing.T) {
	for task := 1; task <= 4; task++ {
		for _, w := range ways() {
			x, e := by(t, w, task)
			epoch := x.Epoch()
			adds(t, x, 31, task%4+1)
			sends(t, x, 31)
			other := entry(31, task%4+1, isSent, 9)
			holds(t, x, epoch, e, other)
			ended(t, x, e)
			for range 2 {
				holds(t, x, epoch, other)
				endedNot(t, x, task)
			}
			adds(t, x, 32, task)
			holds(t, x, epoch, other, entry(32, task, isInit, 9))
			endedNot(t, x, task)
			sends(t, x, 32)
			replies(t, x, 32, outErrno, 2)
			ended(t, x, endedAs(32, task, isReplied, 9, outErrno, 2))
			holds(t, x, epoch, other)
		}
	}
}

// P21.6: of one that is not there, and of no task: none, and nothing has changed.
func TestEndedOfNone(t *testing.T) {
	for _, w := range ways() {
		x, e := by(t, w, 2)
		for _, task := range slices.Concat(noTasks(), []int{1, 3, 4}) {
			endedNot(t, x, task)
			holds(t, x, x.Epoch(), e)
		}
		ended(t, x, e)
		for _, task := range slices.Concat(noTasks(), []int{1, 2, 3, 4}) {
			endedNot(t, x, task)
			holds(t, x, x.Epoch())
		}
	}
}

// P21.6: several that have ended are taken out in any order, each its task's.
func TestEndedOfSeveral(t *testing.T) {
	for task := 1; task <= 4; task++ {
		x := mustNew(t, 4, 2, 1)
		adds(t, x, 1, 1, 2, 3, 4)
		sends(t, x, 1, 2)
		replies(t, x, 1, outFd, 3)
		x.Kill(2)
		ticks(t, x, 1)
		goes(t, x, 3, 4)
		want := []api.Entry{
			endedAs(1, 1, isReplied, 2, outFd, 3), endedAs(2, 2, isGone, 2, outKill, 0),
			endedAs(3, 3, isGone, 0, outTimeout, 0), endedAs(4, 4, isGone, 0, outTimeout, 0),
		}
		for n := range 4 {
			ended(t, x, want[(task-1+n*3)%4])
			if x.Len() != 3-n {
				t.Error(x.Len(), "are left")
			}
		}
		holds(t, x, 0)
	}
}

// P21.7: how one ended never changes till it is taken out, whatever is done.
func TestHowOneEndedStays(t *testing.T) {
	for _, w := range ways() {
		x, e := by(t, w, 2)
		calls := []func(){
			func() { x.Add(2) }, func() { x.Add(1) }, func() { x.Send() }, func() { x.Reply(x.Epoch(), 30, api.Out{Kind: outGo, Val: 1}) },
			func() { x.Reply(x.Epoch(), 30, api.Out{Kind: outKill}) }, func() { x.Reply(4, 30, api.Out{Kind: outErrno, Val: 2}) },
			func() { x.Kill(2) }, func() { x.Tick() }, func() { x.Rise(4) }, func() { x.Rise(x.Epoch() + 1) }, func() { x.Drop() },
			func() { x.Ended(1) }, func() { x.Valid(30) },
		}
		for _, first := range calls {
			for _, second := range calls {
				first()
				second()
				if got, is := x.Get(30); !is || got != e || x.Valid(30) {
					t.Fatalf("behind %s: %v, %v, not %v", w.name, got, is, e)
				}
			}
		}
		ended(t, x, e)
	}
}

// waiting is a notification by the words: it knows behind how many ticks it was let wait, and behind how many it ended.
type waiting struct {
	id          uint64
	task        int
	sent        bool
	since, till int
	answered    bool
	out         api.Out // of the Kind 0 while it waits
}

// words is a table by the chapter's words: the ticks are counted, and notifications stand in a list, rising.
type words struct {
	size, wait, now int
	next, epoch     uint64
	all             []waiting
}

// entry is a notification as it is told.
func (w *words) entry(n waiting) api.Entry {
	e := entry(n.id, n.task, isInit, n.since+w.wait-w.now)
	if n.sent {
		e.State = isSent
	}
	if n.out.Kind == 0 {
		return e
	}
	e.State, e.Left, e.Out = isGone, n.since+w.wait-n.till, n.out
	if n.answered {
		e.State = isReplied
	}
	return e
}

// entries are all notifications as they are told.
func (w *words) entries() []api.Entry {
	var l []api.Entry
	for _, n := range w.all {
		l = append(l, w.entry(n))
	}
	return l
}

// at is the place of a task's notification, -1 if there is none.
func (w *words) at(task int) int {
	return slices.IndexFunc(w.all, func(n waiting) bool { return n.task == task })
}

func (w *words) add(task int) (uint64, api.Errno) {
	switch {
	case task != 1 && task != 2 && task != 3 && task != 4:
		return 0, errArg
	case w.at(task) >= 0:
		return 0, errBusy
	case len(w.all) == w.size, w.next == greatest:
		return 0, errFull
	}
	w.all = append(w.all, waiting{id: w.next, task: task, since: w.now})
	w.next++
	return w.next - 1, 0
}

func (w *words) send() (api.Entry, bool) {
	for at, n := range w.all {
		if !n.sent && n.out.Kind == 0 {
			w.all[at].sent = true
			return w.entry(w.all[at]), true
		}
	}
	return api.Entry{}, false
}

func (w *words) reply(epoch, id uint64, out api.Out) api.Errno {
	at := slices.IndexFunc(w.all, func(n waiting) bool { return n.id == id })
	switch {
	case epoch != w.epoch:
		return errOld
	case at < 0:
		return errNone
	case !w.all[at].sent || w.all[at].out.Kind != 0:
		return errState
	case out.Kind != 1 && out.Kind != 2 && out.Kind != 3:
		return errArg
	}
	w.all[at].answered, w.all[at].out, w.all[at].till = true, out, w.now
	return 0
}

// leave ends one that waits.
func (w *words) leave(at, kind int) bool {
	if at < 0 || w.all[at].out.Kind != 0 {
		return false
	}
	w.all[at].out.Kind, w.all[at].till = kind, w.now
	return true
}

func (w *words) tick() []uint64 {
	w.now++
	var ids []uint64
	for at, n := range w.all {
		if w.now == n.since+w.wait && w.leave(at, outTimeout) {
			ids = append(ids, n.id)
		}
	}
	return ids
}

func (w *words) rise(epoch uint64) api.Errno {
	if epoch <= w.epoch {
		return errOld
	}
	w.epoch = epoch
	w.drop()
	return 0
}

func (w *words) drop() {
	for at := range w.all {
		w.leave(at, outNosys)
	}
}

func (w *words) ended(task int) (api.Entry, bool) {
	at := w.at(task)
	if at < 0 || w.all[at].out.Kind == 0 {
		return api.Entry{}, false
	}
	e := w.entry(w.all[at])
	w.all = slices.Delete(w.all, at, at+1)
	return e, true
}

// What is done with a table.
const (
	doAdd = iota
	doSend
	doReply
	doKill
	doTick
	doRise
	doDrop
	doEnded
	steps
)

// step is a call of a table.
type step struct {
	do, task  int
	epoch, id uint64
	out       api.Out
}

// answer is what a call tells.
type answer struct {
	id    uint64
	wrong api.Errno
	entry api.Entry
	is    bool
}

// pair is a table and one by the words, that are asked the same. told counts what steps were answered: an error, or yes (1)
// and no (0); several how many ticks more than one went at.
type pair struct {
	t       *testing.T
	x       *Table
	w       words
	told    map[[2]int]int
	several int
}

func newPair(t *testing.T, size, wait int, first uint64) *pair {
	t.Helper()
	w := words{size: size, wait: wait, next: first}
	return &pair{t: t, x: mustNew(t, size, wait, first), w: w, told: map[[2]int]int{}}
}

// do is a step of both.
func (p *pair) do(s step) answer {
	p.t.Helper()
	var got, want answer
	var gone, wantGone []uint64
	switch s.do {
	case doAdd:
		got.id, got.wrong = p.x.Add(s.task)
		want.id, want.wrong = p.w.add(s.task)
	case doSend:
		got.entry, got.is = p.x.Send()
		want.entry, want.is = p.w.send()
	case doReply:
		got.wrong, want.wrong = p.x.Reply(s.epoch, s.id, s.out), p.w.reply(s.epoch, s.id, s.out)
	case doKill:
		got.is, want.is = p.x.Kill(s.task), p.w.leave(p.w.at(s.task), outKill)
	case doTick:
		gone, wantGone = p.x.Tick(), p.w.tick()
		got.is, want.is = len(gone) > 0, len(wantGone) > 0
	case doRise:
		got.wrong, want.wrong = p.x.Rise(s.epoch), p.w.rise(s.epoch)
	case doDrop:
		p.x.Drop()
		p.w.drop()
	case doEnded:
		got.entry, got.is = p.x.Ended(s.task)
		want.entry, want.is = p.w.ended(s.task)
	}
	if got != want || !slices.Equal(gone, wantGone) {
		p.t.Fatalf("%+v: %+v and %d, not %+v and %d", s, got, gone, want, wantGone)
	}
	if want.is {
		p.told[[2]int{s.do, 1}]++
	} else {
		p.told[[2]int{s.do, int(want.wrong)}]++
	}
	if len(wantGone) > 1 {
		p.several++
	}
	return got
}

// look fails if the table is not as the words say.
func (p *pair) look() {
	p.t.Helper()
	if p.x.Len() != len(p.w.all) || p.x.Epoch() != p.w.epoch {
		p.t.Fatalf("there are %d of the epoch %d, not %d of %d", p.x.Len(), p.x.Epoch(), len(p.w.all), p.w.epoch)
	}
	for _, want := range p.w.entries() {
		if e, is := p.x.Get(want.ID); !is || e != want || p.x.Valid(want.ID) != (want.State == isSent) {
			p.t.Fatalf("of %d there is %v, %v, not %v", want.ID, e, is, want)
		}
	}
}

// end asks all that is left: what is there, what is to be sent, when it goes, and which ID is the next.
func (p *pair) end() {
	p.t.Helper()
	holds(p.t, p.x, p.w.epoch, p.w.entries()...)
	for range 5 {
		p.do(step{do: doSend})
	}
	for range p.w.wait {
		p.do(step{do: doTick})
	}
	for task := range 6 {
		p.do(step{do: doEnded, task: task})
		p.do(step{do: doAdd, task: task})
	}
	holds(p.t, p.x, p.w.epoch, p.w.entries()...)
}

// P21.2 to P21.6: all short rows of steps follow the words.
func TestShortScriptsFollowTheWords(t *testing.T) {
	all := []step{
		{do: doAdd, task: 1}, {do: doAdd, task: 2}, {do: doSend}, {do: doReply, epoch: 0, id: 1, out: api.Out{Kind: outErrno, Val: 4}},
		{do: doReply, epoch: 1, id: 1, out: api.Out{Kind: outGo}}, {do: doReply, id: 2, out: api.Out{Kind: outKill}}, {do: doKill, task: 1},
		{do: doTick}, {do: doRise, epoch: 1}, {do: doDrop}, {do: doEnded, task: 1}, {do: doEnded, task: 2},
	}
	const length = 5
	scripts := 1
	for range length {
		scripts *= len(all)
	}
	for script := range scripts {
		p := newPair(t, 1+script%2, 1+script/7%2, 1)
		for range length {
			p.do(all[script%len(all)])
			script /= len(all)
		}
		p.look()
		for range 2 {
			p.do(step{do: doTick})
			p.do(step{do: doEnded, task: 1})
			p.do(step{do: doAdd, task: 1})
		}
		p.look()
	}
}

// P21.2 to P21.6: all short rows of steps behind one that is Sent and one that is Init.
func TestShortScriptsOfWhatWaits(t *testing.T) {
	all := []step{
		{do: doAdd, task: 3}, {do: doSend}, {do: doReply, id: 6, out: api.Out{Kind: outFd, Val: 3}}, {do: doReply, id: 7, out: api.Out{Kind: outGo}},
		{do: doReply, epoch: 1, id: 6, out: api.Out{Kind: outGo}}, {do: doKill, task: 1}, {do: doKill, task: 2}, {do: doTick},
		{do: doRise, epoch: 1}, {do: doDrop}, {do: doEnded, task: 1}, {do: doEnded, task: 2}, {do: doAdd, task: 1},
	}
	scripts := len(all) * len(all) * len(all) * len(all)
	for script := range scripts {
		p := newPair(t, 2+script%2, 2, 6)
		p.do(step{do: doAdd, task: 1})
		p.do(step{do: doAdd, task: 2})
		p.do(step{do: doSend})
		for range 4 {
			p.do(all[script%len(all)])
			script /= len(all)
		}
		p.look()
		p.end()
	}
}

// anyStep is a step; idle tells how often nothing of weight is done among 100.
func anyStep(chance *rand.Rand, w *words, idle int) step {
	s := step{do: []int{doAdd, doAdd, doSend, doReply, doReply, doTick, doEnded, doEnded}[chance.Intn(8)], task: 1 + chance.Intn(4)}
	s.epoch, s.id = w.epoch, w.next-1-uint64(chance.Intn(6))
	s.out = api.Out{Kind: 1 + chance.Intn(3), Val: chance.Intn(4096)}
	switch at := chance.Intn(100); {
	case at < idle:
		s.do = doTick
	case at < idle+2:
		s.do, s.epoch = doRise, w.epoch+1
	case at < idle+3:
		s.do, s.epoch = doRise, w.epoch-uint64(chance.Intn(2))
	case at < idle+5:
		s.do = doDrop
	case at < idle+12:
		s.do = doKill
	}
	switch chance.Intn(40) {
	case 0:
		s.task = ints[chance.Intn(len(ints))]
	case 1:
		s.id = edges[chance.Intn(len(edges))]
	case 2:
		s.out.Kind = ints[chance.Intn(len(ints))]
	case 3:
		s.epoch += uint64(chance.Intn(3)) - 1
	case 4, 5:
		s.out.Kind = 4 + chance.Intn(5)
	}
	return s
}

// scatteredPair is a pair for scattered steps.
func scatteredPair(t *testing.T, seed int64) (*rand.Rand, *pair) {
	t.Helper()
	chance := rand.New(rand.NewSource(seed))
	first := []uint64{0, 1, 1 << 20, math.MaxUint32 - 20, math.MaxInt64 - 20, greatest - 40}[seed%6]
	return chance, newPair(t, 1+int(seed)%8, []int{1, 2, 3, 5, 10, 40, 1000}[seed%7], first)
}

// P21.2 to P21.6: scattered steps follow the words, of each size, of few ticks and of many, and at the end of the IDs.
func TestScattered(t *testing.T) {
	told, several := map[[2]int]int{}, 0
	for seed := range int64(600) {
		chance, p := scatteredPair(t, seed)
		for range 400 {
			p.do(anyStep(chance, &p.w, int(seed%4)*10))
			p.look()
		}
		p.end()
		several += p.several
		for what, many := range p.told {
			told[what] += many
		}
	}
	for _, what := range [][2]int{
		{doAdd, 0}, {doAdd, errArg}, {doAdd, errBusy}, {doAdd, errFull}, {doSend, 1}, {doSend, 0}, {doReply, 0}, {doReply, errArg},
		{doReply, errOld}, {doReply, errNone}, {doReply, errState}, {doKill, 1}, {doKill, 0}, {doTick, 1}, {doTick, 0}, {doRise, 0},
		{doRise, errOld}, {doDrop, 0}, {doEnded, 1}, {doEnded, 0},
	} {
		if told[what] < 100 {
			t.Errorf("the step %d is answered %d just %d times", what[0], what[1], told[what])
		}
	}
	if several < 100 {
		t.Error("several go at", several, "ticks")
	}
}

// P21.7: over scattered steps IDs rise by one, and none is used again, whether an error comes between or not.
func TestIDsRise(t *testing.T) {
	for seed := range int64(200) {
		chance, p := scatteredPair(t, seed)
		next := p.w.next
		for range 400 {
			s := anyStep(chance, &p.w, 10)
			if a := p.do(s); s.do == doAdd && a.wrong == 0 {
				if a.id != next {
					t.Fatalf("the ID %d comes, not %d", a.id, next)
				}
				next++
			}
			for id := range 5 {
				if _, is := p.x.Get(next + uint64(id)); is && next+uint64(id) >= next {
					t.Fatalf("%d is there ahead of its time", next+uint64(id))
				}
			}
		}
	}
}

// P21.7: over scattered steps how one ended never changes, till it is taken out, as it was; and no ID comes back.
func TestHowOneEndedNeverChanges(t *testing.T) {
	for seed := range int64(200) {
		chance, p := scatteredPair(t, seed)
		how := map[uint64]api.Entry{}
		out := map[uint64]struct{}{}
		first := p.w.next
		for range 400 {
			s := anyStep(chance, &p.w, 10)
			if a := p.do(s); s.do == doEnded && a.is {
				if was, is := how[a.entry.ID]; is && was != a.entry {
					t.Fatalf("%v is taken out, not %v", a.entry, was)
				}
				out[a.entry.ID] = struct{}{}
			}
			for id := first; id < p.w.next; id++ {
				e, is := p.x.Get(id)
				was, had := how[id]
				_, taken := out[id]
				if is == taken || is && had && e != was {
					t.Fatalf("%v, %v is there, and it ended as %v", e, is, was)
				}
				if is && e.Out.Kind != 0 {
					how[id] = e
				}
			}
		}
	}
}

// P21.7: over scattered steps one that waits has ended behind as many ticks as `wait` says, not later; one that went so, not
// sooner either.
func TestNoneWaitsTooLong(t *testing.T) {
	went := 0
	for seed := range int64(300) {
		chance, p := scatteredPair(t, seed)
		since := map[uint64]int{}
		now := 0
		for range 500 {
			s := anyStep(chance, &p.w, 30)
			a := p.do(s)
			if s.do == doTick {
				now++
			}
			if s.do == doAdd && a.wrong == 0 {
				since[a.id] = now
			}
			for id, at := range since {
				e, is := p.x.Get(id)
				waits := is && (e.State == isInit || e.State == isSent)
				if waits && (now >= at+p.w.wait || e.Left != at+p.w.wait-now) {
					t.Fatalf("behind %d ticks of %d there is %v", now-at, p.w.wait, e)
				}
				if is && e.Out.Kind == outTimeout && now == at+p.w.wait {
					went++
				}
				if is && e.Out.Kind == outTimeout && now < at+p.w.wait {
					t.Fatalf("behind %d ticks of %d there is %v", now-at, p.w.wait, e)
				}
				if !waits && (!is || now > at+p.w.wait) {
					delete(since, id)
				}
			}
		}
	}
	if went < 1000 {
		t.Error("few went:", went)
	}
}

// P21.7: behind Rise no Reply of an older epoch does anything: no ID of any time, and nothing that it says.
func TestNoReplyOfAnOlderEpoch(t *testing.T) {
	for seed := range int64(150) {
		chance, p := scatteredPair(t, seed)
		first := p.w.next
		older := []uint64{}
		for range 200 {
			if chance.Intn(15) == 0 {
				older = append(older, p.w.epoch)
				p.do(step{do: doRise, epoch: p.w.epoch + 1 + uint64(chance.Intn(3))})
			} else if s := anyStep(chance, &p.w, 10); s.do != doRise {
				p.do(s)
			}
			for _, epoch := range older {
				id := first + uint64(chance.Intn(int(p.w.next-first)+1))
				if e, is := p.x.Get(id); is && chance.Intn(2) == 0 {
					id = e.ID
				}
				if wrong := p.x.Reply(epoch, id, api.Out{Kind: 1 + chance.Intn(4)}); wrong != errOld {
					t.Fatalf("Reply(%d, %d): %d", epoch, id, wrong)
				}
			}
			p.look()
		}
	}
}

// R3: what is done with what Tick told changes nothing, and what was told stays as it was.
func TestToldIsNotShared(t *testing.T) {
	x := mustNew(t, 4, 1, 1)
	var told [][]uint64
	for n := range uint64(50) {
		adds(t, x, 1+4*n, 1, 2, 3, 4)
		told = append(told, x.Tick())
		for task := 1; task <= 4; task++ {
			ended(t, x, endedAs(4*n+uint64(task), task, isGone, 0, outTimeout, 0))
		}
	}
	for n, l := range told {
		at := uint64(4 * n)
		if !slices.Equal(l, []uint64{at + 1, at + 2, at + 3, at + 4}) {
			t.Errorf("what was told is %d now", l)
		}
	}
	for n := range uint64(50) {
		adds(t, x, 201+4*n, 1, 2, 3, 4)
		want := []api.Entry{
			endedAs(201+4*n, 1, isGone, 0, outTimeout, 0), endedAs(202+4*n, 2, isGone, 0, outTimeout, 0),
			endedAs(203+4*n, 3, isGone, 0, outTimeout, 0), endedAs(204+4*n, 4, isGone, 0, outTimeout, 0),
		}
		l := x.Tick()
		clear(l[:cap(l)])
		_ = append(l[:0], 9, 8, 7, 6)
		holds(t, x, 0, want...)
		for _, e := range want {
			ended(t, x, e)
		}
	}
}

// R3: what Send, Get and Ended told stays as it was, whatever is done afterwards.
func TestToldEntriesStay(t *testing.T) {
	x := mustNew(t, 2, 4, 1)
	adds(t, x, 1, 1)
	first, _ := x.Get(1)
	sent, _ := x.Send()
	ticks(t, x, 1)
	second, _ := x.Get(1)
	replies(t, x, 1, outFd, 3)
	second.Out.Kind, second.Left = outKill, 99
	third, _ := x.Get(1)
	third.Task = 2
	ended(t, x, endedAs(1, 1, isReplied, 3, outFd, 3))
	adds(t, x, 2, 1, 2)
	if first != entry(1, 1, isInit, 4) || sent != entry(1, 1, isSent, 4) {
		t.Error(first, sent)
	}
}

// R4: two tables have nothing in common, and tables that were asked the same tell the same.
func TestTablesStandAlone(t *testing.T) {
	a, b := mustNew(t, 2, 3, 5), mustNew(t, 2, 3, 5)
	adds(t, a, 5, 1, 2)
	holds(t, b, 0)
	adds(t, b, 5, 2)
	sends(t, a, 5)
	holds(t, b, 0, entry(5, 2, isInit, 3))
	sends(t, b, 5)
	replies(t, a, 5, outGo, 0)
	holds(t, b, 0, entry(5, 2, isSent, 3))
	rises(t, a, 9)
	holds(t, b, 0, entry(5, 2, isSent, 3))
	ticks(t, b, 2)
	holds(t, a, 9, endedAs(5, 1, isReplied, 3, outGo, 0), endedAs(6, 2, isGone, 3, outNosys, 0))
	goes(t, b, 5)
	ended(t, a, endedAs(5, 1, isReplied, 3, outGo, 0))
	holds(t, b, 0, endedAs(5, 2, isGone, 0, outTimeout, 0))
	for range 50 {
		x, y := mustNew(t, 4, 2, 3), mustNew(t, 4, 2, 3)
		for task := 4; task > 0; task-- {
			x.Add(task)
			y.Add(task)
		}
		first, _ := x.Send()
		second, _ := y.Send()
		if first != second || len(x.Tick())+len(y.Tick()) != 0 || !slices.Equal(x.Tick(), y.Tick()) {
			t.Fatal("the same calls are answered in two ways")
		}
	}
}

// P0: calls at all arguments end, in any order.
func TestAllCallsEnd(t *testing.T) {
	numbers := slices.Concat(ints, []int{1, 2, 3, 4, 8, 1000})
	for _, size := range numbers {
		for _, wait := range numbers {
			x, wrong := New(size, wait, 2)
			if wrong != 0 {
				continue
			}
			for _, n := range numbers {
				for _, id := range edges {
					x.Add(n)
					x.Send()
					x.Valid(id)
					x.Get(id)
					x.Reply(id, id, api.Out{Kind: n, Val: n})
					x.Kill(n)
					x.Tick()
					x.Ended(n)
				}
			}
			for _, id := range edges {
				x.Rise(id)
				x.Drop()
			}
			if x.Len() > size || x.Epoch() != greatest {
				t.Fatal(x.Len(), x.Epoch())
			}
		}
	}
}

// What a table keeps is what is there, not what ever was.
func TestNothingMoreIsKept(t *testing.T) {
	x := mustNew(t, 3, 5, 0)
	for n := range 10000 {
		x.Add(1 + n%4)
		x.Send()
		x.Tick()
		x.Kill(1 + n/2%4)
		x.Ended(1 + n/3%4)
		if len(x.all) != x.Len() || x.Len() > 3 {
			t.Fatal(len(x.all), "are kept")
		}
	}
}
