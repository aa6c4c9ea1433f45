package fds

import (
	"maps"
	"math"
	"math/rand"
	"slices"
	"testing"

	"fairlead/api"
	"fairlead/arq"
	"fairlead/msg"
)

// The document's numbers, written out.
const (
	many    = 16
	errFull = 16
	errNone = 17
)

// nowhere are numbers that are no places.
var nowhere = []int{
	-1, 16, math.MinInt, math.MaxInt, -2, -3, -15, -16, -17, 17, 18, 31, 32, 48, 255, 256, 1 << 16, 1<<16 + 3, math.MinInt + 1,
	math.MinInt + 16, math.MinInt32, math.MaxInt32, math.MaxInt32 + 1, 1 << 32, 1<<32 + 1, 1<<32 + 15, -1 << 32, math.MaxInt - 1,
}

// vals are files at which something could go astray.
var vals = []int{
	0, 1, -1, math.MaxInt, math.MinInt, 2, 3, 15, 16, 17, 100, -2, -16, 255, 256, math.MaxInt32, math.MaxInt32 + 1, math.MinInt32,
	math.MaxUint32, 1 << 32, 1<<53 + 1, math.MaxInt - 1, math.MinInt + 1,
}

// files are what a table has by the words: a place that is not in it is free.
type files map[int]int

// first are those of a new table.
func first() files { return files{0: 0, 1: 1, 2: 2} }

func (f files) install(val int) (int, api.Errno) {
	for fd := range many {
		if _, is := f[fd]; !is {
			f[fd] = val
			return fd, 0
		}
	}
	return -1, errFull
}

func (f files) close(fd int) api.Errno {
	if _, is := f[fd]; !is {
		return errNone
	}
	delete(f, fd)
	return 0
}

// but are the same files, and another one at one place.
func (f files) but(fd, val int) files {
	other := maps.Clone(f)
	other[fd] = val
	return other
}

// without are the same files but that at one place.
func (f files) without(fd int) files {
	other := maps.Clone(f)
	delete(other, fd)
	return other
}

// all has the same file at each place.
func all(val int) files {
	f := files{}
	for fd := range many {
		f[fd] = val
	}
	return f
}

// at has a file at each place whose bit is set, each another one.
func at(bits int) files {
	f := files{}
	for fd := range many {
		if bits>>fd&1 == 1 {
			f[fd] = 1000 - fd
		}
	}
	return f
}

// holds fails if a table does not have just these files.
func holds(t *testing.T, x *Table, want files) {
	t.Helper()
	for fd := range many {
		if val, is := want[fd]; has(x, fd, val, is) {
			continue
		}
		got, is := x.Get(fd)
		t.Fatalf("at %d stands %d (%v), not as %d says", fd, got, is, want)
	}
	for _, fd := range nowhere {
		if val, is := x.Get(fd); val != 0 || is {
			t.Fatalf("Get(%d): %d, %v", fd, val, is)
		}
	}
	if x.Len() != len(want) {
		t.Fatalf("of %d the Len is %d", want, x.Len())
	}
}

// has tells whether a table tells just this of a place.
func has(x *Table, fd, want int, isThere bool) bool {
	val, is := x.Get(fd)
	return val == want && is == isThere
}

func mustInstall(t *testing.T, x *Table, fd, val int) {
	t.Helper()
	if got, wrong := x.Install(val); got != fd || wrong != 0 {
		t.Fatalf("Install(%d): %d, %d, not %d", val, got, wrong, fd)
	}
}

func mustClose(t *testing.T, x *Table, fd int) {
	t.Helper()
	if wrong := x.Close(fd); wrong != 0 {
		t.Fatalf("Close(%d): %d", fd, wrong)
	}
}

// of is a table with just these files: they are installed from the lowest place on, and what stands between is closed.
func of(t *testing.T, f files) *Table {
	t.Helper()
	x := New()
	for fd := range 3 {
		mustClose(t, x, fd)
	}
	for fd := range many {
		mustInstall(t, x, fd, f[fd])
	}
	for fd := range many {
		if _, is := f[fd]; !is {
			mustClose(t, x, fd)
		}
	}
	return x
}

// otherwise is such a table by other calls: it is full of other files first, out of which these come from the highest place on.
func otherwise(t *testing.T, f files) *Table {
	t.Helper()
	x := New()
	for fd := 3; fd < many; fd++ {
		mustInstall(t, x, fd, 77-fd)
	}
	for fd := many - 1; fd >= 0; fd-- {
		if val, is := f[fd]; is {
			mustClose(t, x, fd)
			mustInstall(t, x, fd, val)
		}
	}
	for fd := many - 1; fd >= 0; fd-- {
		if _, is := f[fd]; !is {
			mustClose(t, x, fd)
		}
	}
	return x
}

// P20.1, P20.2: the chapter's examples.
func TestExamples(t *testing.T) {
	x := New()
	mustInstall(t, x, 3, 9)
	mustClose(t, x, 1)
	mustInstall(t, x, 1, 8)
	if val, is := x.Get(1); val != 8 || !is {
		t.Error(val, is)
	}
	mustClose(t, x, 1)
	if wrong := x.Close(1); wrong != errNone {
		t.Error(wrong)
	}
	for n := range 13 {
		if fd, wrong := x.Install(n); fd < 0 || wrong != 0 {
			t.Error(n, fd, wrong)
		}
	}
	if fd, wrong := x.Install(13); fd != -1 || wrong != errFull {
		t.Error(fd, wrong)
	}
}

// P20.1 to P20.3: of the examples 6 and 7 of the whole what a task's files have of it: what MsgFd tells comes at 3, and just
// once if the answer comes twice; the other tasks' files stay.
func TestExamplesOfTheWhole(t *testing.T) {
	var tasks [4]*Table
	for n := range tasks {
		tasks[n] = New()
	}
	sent, wrong := msg.Encode(api.Msg{Kind: api.MsgFd, Epoch: 1, ID: 7, Val: 100})
	if wrong != 0 {
		t.Fatal(wrong)
	}
	var answered arq.Seen
	for range 2 {
		answer, wrong := msg.Decode(sent)
		if wrong != 0 {
			t.Fatal(wrong)
		}
		if answered.Take(answer.ID) {
			mustInstall(t, tasks[0], 3, answer.Val)
		}
	}
	holds(t, tasks[0], first().but(3, 100))
	for _, x := range tasks[1:] {
		holds(t, x, first())
		if !x.Same(New()) || x.Same(tasks[0]) {
			t.Error("another task's files are others")
		}
	}
}

// P20.1: a new table has the files 0, 1 and 2 at these places, and nothing at each of the others.
func TestNew(t *testing.T) {
	for range 3 {
		x := New()
		for fd := range 3 {
			if val, is := x.Get(fd); val != fd || !is {
				t.Errorf("at %d stands %d, %v", fd, val, is)
			}
		}
		for fd := 3; fd <= 15; fd++ {
			if val, is := x.Get(fd); val != 0 || is {
				t.Errorf("at %d stands %d, %v", fd, val, is)
			}
			if wrong := x.Close(fd); wrong != errNone {
				t.Errorf("Close(%d): %d", fd, wrong)
			}
		}
		if x.Len() != 3 {
			t.Error("its Len is", x.Len())
		}
		holds(t, x, first())
		for fd := 3; fd <= 15; fd++ {
			mustInstall(t, x, fd, 5)
		}
	}
}

// P20.1: the limit that the document names is the number of the places.
func TestPlaces(t *testing.T) {
	if api.MaxFd != many || api.ErrFull != errFull || api.ErrNone != errNone {
		t.Error("the document's numbers are others")
	}
	x := of(t, files{})
	for fd := range many {
		mustInstall(t, x, fd, 0)
	}
	if fd, wrong := x.Install(0); fd != -1 || wrong != errFull {
		t.Error(fd, wrong)
	}
}

// P20.1: a file may be any number, and stand at several places; what is installed is told, and nothing else changes.
func TestInstallAnyFile(t *testing.T) {
	for _, val := range vals {
		x, want := New(), first()
		for fd := 3; fd < many; fd++ {
			mustInstall(t, x, fd, val)
			want[fd] = val
			holds(t, x, want)
		}
		for fd := range 3 {
			mustClose(t, x, fd)
			mustInstall(t, x, fd, val)
		}
		holds(t, x, all(val))
	}
}

// P20.1: each two files, at neighbouring places and at the ends.
func TestInstallTwoFiles(t *testing.T) {
	for _, a := range vals {
		for _, b := range vals {
			x := New()
			mustInstall(t, x, 3, a)
			mustInstall(t, x, 4, b)
			holds(t, x, first().but(3, a).but(4, b))
			x = of(t, all(9).without(0).without(15))
			mustInstall(t, x, 0, a)
			mustInstall(t, x, 15, b)
			holds(t, x, all(9).but(0, a).but(15, b))
		}
	}
}

// P20.1, P20.3: of all tables, whatever places are free: Install tells the lowest free one, and Close frees each one that is
// not; no other place changes.
func TestOfAllTables(t *testing.T) {
	for bits := range 1 << many {
		want := at(bits)
		x := of(t, want)
		fd, wrong := x.Install(-7)
		wantFd, wantWrong := want.install(-7)
		if fd != wantFd || wrong != wantWrong {
			t.Fatalf("of %016b Install: %d, %d", bits, fd, wrong)
		}
		closed := bits % many
		if wrong, wantWrong := x.Close(closed), want.close(closed); wrong != wantWrong {
			t.Fatalf("of %016b Close(%d): %d", bits, closed, wrong)
		}
		holds(t, x, want)
	}
}

// P20.1: the lowest free place, from 0 to 15, whatever is free above it: nothing else, one place, each second one or all.
func TestInstallAtTheLowest(t *testing.T) {
	for fd := range many {
		for _, above := range []int{0, 1 << 15, 0x5555, 0xaaaa, 0xffff} {
			free := 1<<fd | above&^(1<<fd-1)
			want := at(0xffff &^ free)
			for _, x := range []*Table{of(t, want), otherwise(t, want)} {
				holds(t, x, want)
				mustInstall(t, x, fd, 5)
				holds(t, x, want.but(fd, 5))
			}
		}
	}
}

// P20.1: if just one place is free it gets the file, and the next one has no room.
func TestInstallWhereOneIsFree(t *testing.T) {
	for fd := range many {
		for _, val := range vals {
			x := of(t, all(4).without(fd))
			mustInstall(t, x, fd, val)
			holds(t, x, all(4).but(fd, val))
			if fd, wrong := x.Install(val); fd != -1 || wrong != errFull {
				t.Error(fd, wrong)
			}
			holds(t, x, all(4).but(fd, val))
		}
	}
}

// P20.1: if none is free: -1 and ErrFull, however often, and nothing has changed; with one that is free again all is well.
func TestInstallWhereNoneIsFree(t *testing.T) {
	for _, full := range []files{all(0), all(-1), all(math.MaxInt), at(0xffff)} {
		x := of(t, full)
		for _, val := range vals {
			if fd, wrong := x.Install(val); fd != -1 || wrong != errFull {
				t.Errorf("Install(%d): %d, %d", val, fd, wrong)
			}
			holds(t, x, full)
		}
		if !x.Same(otherwise(t, full)) {
			t.Error("something has changed")
		}
		for fd := range many {
			mustClose(t, x, fd)
			mustInstall(t, x, fd, 6)
			full = full.but(fd, 6)
			holds(t, x, full)
			if fd, wrong := x.Install(6); fd != -1 || wrong != errFull {
				t.Error(fd, wrong)
			}
		}
	}
}

// P20.1: Close of each place that has a file: OK; of one that has none: ErrNone; and no other place changes.
func TestClose(t *testing.T) {
	for fd := range many {
		for _, val := range vals {
			x := of(t, all(3).but(fd, val))
			mustClose(t, x, fd)
			holds(t, x, all(3).without(fd))
			for range 2 {
				if wrong := x.Close(fd); wrong != errNone {
					t.Errorf("Close(%d) of a free place: %d", fd, wrong)
				}
				holds(t, x, all(3).without(fd))
			}
			x = of(t, files{fd: val})
			for other := range many {
				if wrong := x.Close(other); other != fd && wrong != errNone || other == fd && wrong != 0 {
					t.Errorf("of %d alone Close(%d): %d", fd, other, wrong)
				}
			}
			holds(t, x, nil)
		}
	}
}

// P20.1: Close where there is no such place: ErrNone, and nothing has changed.
func TestCloseNowhere(t *testing.T) {
	for _, want := range []files{first(), {}, all(0), all(7), {15: 2}, {0: 2}} {
		x := of(t, want)
		for _, fd := range nowhere {
			if wrong := x.Close(fd); wrong != errNone {
				t.Errorf("Close(%d): %d", fd, wrong)
			}
			holds(t, x, want)
		}
		if !x.Same(otherwise(t, want)) {
			t.Error("something has changed")
		}
	}
}

// P20.1: all places are closed one by one, in each of several orders, and get files again from the lowest one on.
func TestCloseAll(t *testing.T) {
	for step := 1; step < many; step += 2 {
		x, want := of(t, at(0xffff)), at(0xffff)
		for n := range many {
			fd := (5 + n*step) % many
			mustClose(t, x, fd)
			delete(want, fd)
			holds(t, x, want)
		}
		if x.Len() != 0 || !x.Same(of(t, nil)) {
			t.Error("something is left")
		}
		for fd := range many {
			mustInstall(t, x, fd, 1000-fd)
		}
		holds(t, x, at(0xffff))
	}
}

// P20.1: a place that was closed is the next one that Install tells, if it is the lowest free one; else a lower one is, and
// it comes when its turn is.
func TestClosedIsNext(t *testing.T) {
	for a := range many {
		x := of(t, all(1))
		mustClose(t, x, a)
		mustInstall(t, x, a, 2)
		for b := range many {
			if a == b {
				continue
			}
			x := of(t, all(1))
			mustClose(t, x, a)
			mustClose(t, x, b)
			mustInstall(t, x, min(a, b), 2)
			mustInstall(t, x, max(a, b), 3)
			holds(t, x, all(1).but(min(a, b), 2).but(max(a, b), 3))
		}
	}
	x := New()
	for range 1000 {
		mustInstall(t, x, 3, 5)
		mustClose(t, x, 3)
	}
	holds(t, x, first())
}

// P20.2: Get of each place, free or not, of one that is none, and of one that has the file 0; it changes nothing.
func TestGet(t *testing.T) {
	for fd := range many {
		for _, val := range vals {
			x := of(t, files{fd: val})
			for range 2 {
				for other := range many {
					if other != fd && !has(x, other, 0, false) || other == fd && !has(x, fd, val, true) {
						t.Fatalf("with %d at %d alone Get(%d) tells another thing", val, fd, other)
					}
				}
				for _, other := range nowhere {
					if !has(x, other, 0, false) {
						t.Fatalf("with %d at %d alone Get(%d) tells something", val, fd, other)
					}
				}
			}
			mustClose(t, x, fd)
			if !has(x, fd, 0, false) {
				t.Errorf("at %d something is left of %d", fd, val)
			}
		}
	}
	x := of(t, all(0))
	for fd := range many {
		if !has(x, fd, 0, true) {
			t.Errorf("the file 0 is not at %d", fd)
		}
	}
}

// P20.2: Len of a new table, of a full one and of one with none, and behind each Install and Close, of those that can't be too.
func TestLen(t *testing.T) {
	x := New()
	for n := 3; n <= many; n++ {
		if x.Len() != n {
			t.Errorf("the Len is %d, not %d", x.Len(), n)
		}
		x.Close(-1)
		x.Close(n)
		x.Install(0)
	}
	if x.Len() != 16 {
		t.Error("of a full one the Len is", x.Len())
	}
	for n := many - 1; n >= 0; n-- {
		mustClose(t, x, 15-n)
		x.Close(15 - n)
		x.Close(16)
		if x.Len() != n {
			t.Errorf("the Len is %d, not %d", x.Len(), n)
		}
	}
	for bits := range 1 << 8 {
		if x := of(t, at(bits*0x101)); x.Len() != len(at(bits*0x101)) {
			t.Errorf("of %016b the Len is %d", bits*0x101, x.Len())
		}
	}
}

// P20.2: two new tables are the same, and any is the same as itself, but none as nil.
func TestSameOfNew(t *testing.T) {
	x, y := New(), New()
	if !x.Same(y) || !y.Same(x) || !x.Same(x) {
		t.Error("new ones are not the same")
	}
	for _, f := range []files{first(), {}, all(0), all(-3), {15: 1}, {0: 0}} {
		if x := of(t, f); x.Same(nil) || !x.Same(x) {
			t.Errorf("of %d: the same as nil, or not as itself", f)
		}
	}
}

// P20.2: tables that came to the same files by other calls are the same, whatever stood at their places before.
func TestSameByOtherCalls(t *testing.T) {
	for bits := range 1 << 10 {
		f := at(bits * 0x41 & 0xffff)
		x, y := of(t, f), otherwise(t, f)
		if !x.Same(y) || !y.Same(x) {
			t.Fatalf("%d is not the same by other calls", f)
		}
	}
	for _, old := range vals {
		for _, val := range vals {
			x := New()
			mustInstall(t, x, 3, old)
			mustClose(t, x, 3)
			if !x.Same(New()) || !New().Same(x) {
				t.Fatalf("%d, that was closed, is told", old)
			}
			mustInstall(t, x, 3, val)
			y := New()
			mustInstall(t, y, 3, val)
			if !x.Same(y) || !y.Same(x) {
				t.Fatalf("%d, that was closed ahead of %d, is told", old, val)
			}
		}
	}
}

// P20.2: tables that are unlike in one file, at any place, or in one place, are not the same; the file 0 is unlike none.
func TestSameOfUnlike(t *testing.T) {
	differ := func(f, g files) {
		t.Helper()
		if x, y := of(t, f), otherwise(t, g); x.Same(y) || y.Same(x) {
			t.Errorf("%d and %d are the same", f, g)
		}
	}
	for fd := range many {
		for _, f := range []files{first(), {}, all(0), all(9), at(0x5555)} {
			for _, val := range vals {
				if old, is := f[fd]; !is || old != val {
					differ(f, f.but(fd, val))
				}
				differ(f.but(fd, val), f.without(fd))
			}
			differ(f.but(fd, 0), f.without(fd))
			differ(f.but(fd, 0).without((fd+1)%many), f.without(fd).but((fd+1)%many, 0))
			differ(f.but(fd, 4).but((fd+1)%many, 5), f.but(fd, 5).but((fd+1)%many, 4))
		}
	}
}

// P20.2: each two of all tables with none, the file 0 or the file 1 at each of four places, which stand anywhere.
func TestSameOfAllPairs(t *testing.T) {
	for _, from := range []int{0, 1, 6, 12} {
		var tables []*Table
		for n := range 81 {
			f := all(5)
			for fd := from; fd < from+4; fd++ {
				if f[fd] = n%3 - 1; f[fd] < 0 {
					delete(f, fd)
				}
				n /= 3
			}
			tables = append(tables, of(t, f))
		}
		for n, x := range tables {
			for m, y := range tables {
				if x.Same(y) != (n == m) {
					t.Errorf("of the places from %d on: the tables %d and %d are told wrongly", from, n, m)
				}
			}
		}
	}
}

// P20.2: that tables are asked changes nothing of them.
func TestAskedStays(t *testing.T) {
	x, y := of(t, at(0x9249)), of(t, all(0))
	for range 3 {
		x.Same(y)
		y.Same(x)
		x.Same(nil)
		x.Same(x)
		x.Len()
		x.Get(3)
		x.Get(-1)
		holds(t, x, at(0x9249))
		holds(t, y, all(0))
	}
}

// event is what was done with a place: a file was installed, or it was closed.
type event struct {
	fd, val   int
	installed bool
}

// last tells what stands at a place by what was done with it last.
func last(past []event, fd int) (int, bool) {
	for _, e := range slices.Backward(past) {
		if e.fd == fd {
			return e.val, e.installed
		}
	}
	return 0, false
}

// P20.3: what was installed is there till it is closed, and nothing else; below the place that Install tells none is free.
func TestThereTillClosed(t *testing.T) {
	full, none := 0, 0
	for seed := range int64(200) {
		chance := rand.New(rand.NewSource(seed))
		x := New()
		past := []event{{0, 0, true}, {1, 1, true}, {2, 2, true}}
		closes := 1 + int(seed%4)
		for range 200 {
			if chance.Intn(5) < closes {
				fd := chance.Intn(20) - 2
				if wrong := x.Close(fd); wrong == 0 {
					past = append(past, event{fd: fd})
				} else {
					none++
				}
			} else {
				val := vals[chance.Intn(len(vals))]
				fd, wrong := x.Install(val)
				if wrong == 0 {
					past = append(past, event{fd, val, true})
				} else {
					full++
				}
				for below := range fd {
					if _, is := x.Get(below); !is {
						t.Fatalf("%d is passed over, Install tells %d", below, fd)
					}
				}
			}
			for fd := -2; fd < 18; fd++ {
				if val, is := last(past, fd); !has(x, fd, val, is) {
					t.Fatalf("at %d stands what was not installed there last", fd)
				}
			}
		}
	}
	if full < 100 || none < 1000 {
		t.Error("too few calls find no room,", full, "or nothing,", none)
	}
}

// pair are a table and files by the words, that are asked the same.
type pair struct {
	t     *testing.T
	x     *Table
	f     files
	wrong map[api.Errno]int
}

func (p *pair) install(val int) {
	p.t.Helper()
	fd, wrong := p.x.Install(val)
	wantFd, want := p.f.install(val)
	p.wrong[want]++
	if fd != wantFd || wrong != want {
		p.t.Fatalf("Install(%d): %d, %d, not %d, %d", val, fd, wrong, wantFd, want)
	}
}

func (p *pair) close(fd int) {
	p.t.Helper()
	wrong, want := p.x.Close(fd), p.f.close(fd)
	p.wrong[want]++
	if wrong != want {
		p.t.Fatalf("Close(%d): %d, not %d", fd, wrong, want)
	}
}

// P20.1, P20.2: all short rows of calls follow the words, of a new table, of one with none and of one that is nearly full.
func TestShortScriptsFollowTheWords(t *testing.T) {
	const length = 5
	steps := []func(p *pair){
		func(p *pair) { p.install(0) },
		func(p *pair) { p.install(-8) },
		func(p *pair) { p.close(0) },
		func(p *pair) { p.close(1) },
		func(p *pair) { p.close(3) },
		func(p *pair) { p.close(14) },
		func(p *pair) { p.close(15) },
		func(p *pair) { p.close(16) },
	}
	scripts := 1
	for range length {
		scripts *= len(steps)
	}
	for _, begin := range []files{first(), {}, all(6).without(3).without(15), all(0)} {
		x := of(t, begin)
		for script := range scripts {
			y := *x
			p := &pair{t, &y, maps.Clone(begin), map[api.Errno]int{}}
			for range length {
				steps[script%len(steps)](p)
				script /= len(steps)
			}
			holds(t, p.x, p.f)
		}
		holds(t, x, begin)
	}
}

// P20.1 to P20.3: many calls in scattered order follow the words, whether tables are rather full or rather empty.
func TestScattered(t *testing.T) {
	wrong := map[api.Errno]int{}
	for seed := range int64(300) {
		chance := rand.New(rand.NewSource(seed))
		p := &pair{t, New(), first(), wrong}
		for range 400 {
			if chance.Intn(6) <= int(seed%5) {
				p.install(chance.Intn(7) - 3)
			} else if chance.Intn(10) == 0 {
				p.close(nowhere[chance.Intn(len(nowhere))])
			} else {
				p.close(chance.Intn(many))
			}
			holds(t, p.x, p.f)
			if chance.Intn(50) == 0 && (!p.x.Same(of(t, p.f)) || !otherwise(t, p.f).Same(p.x)) {
				t.Fatal("by other calls the table is another one")
			}
		}
	}
	if wrong[0] < 10000 || wrong[errFull] < 1000 || wrong[errNone] < 1000 {
		t.Error("some errors are told too seldom:", wrong)
	}
}

// R4: tables have nothing in common: what is done with one is nothing to the others, begun ahead of it or behind it.
func TestTablesStandAlone(t *testing.T) {
	a, b := New(), New()
	mustInstall(t, a, 3, 9)
	mustClose(t, a, 1)
	holds(t, b, first())
	c := New()
	holds(t, c, first())
	for fd := 3; fd < many; fd++ {
		mustInstall(t, b, fd, 50)
	}
	if fd, wrong := b.Install(50); fd != -1 || wrong != errFull {
		t.Error(fd, wrong)
	}
	mustClose(t, c, 0)
	holds(t, a, files{0: 0, 2: 2, 3: 9})
	holds(t, b, all(50).but(0, 0).but(1, 1).but(2, 2))
	holds(t, c, files{1: 1, 2: 2})
	mustInstall(t, a, 1, 8)
	mustInstall(t, c, 0, 7)
	holds(t, New(), first())
}

// R4: a table that was held against another one does not follow it.
func TestSameBindsNothing(t *testing.T) {
	a, b := New(), New()
	if !a.Same(b) {
		t.Fatal("new ones are not the same")
	}
	mustInstall(t, a, 3, 0)
	if a.Same(b) || b.Same(a) {
		t.Error("the file 0 is as none")
	}
	mustInstall(t, b, 3, 0)
	if !a.Same(b) || !b.Same(a) {
		t.Error("the same calls tell unlike tables")
	}
	mustClose(t, b, 3)
	holds(t, a, first().but(3, 0))
	holds(t, b, first())
}

// P0: calls at all arguments end, of tables of each kind.
func TestAllCallsEnd(t *testing.T) {
	for _, f := range []files{first(), {}, all(0), at(0xa5a5)} {
		x := of(t, f)
		for _, val := range vals {
			for _, fd := range append(slices.Clone(nowhere), vals...) {
				x.Get(fd)
				x.Close(fd)
				x.Install(val)
				if x.Same(nil) || !x.Same(x) || x.Len() < 1 || x.Len() > many {
					t.Fatal(val, fd)
				}
			}
		}
	}
}

// What a table keeps is what stands in it, not what ever did.
func TestNothingMoreIsKept(t *testing.T) {
	x := New()
	for n := range 1000 {
		x.Install(n)
		x.Close(n * 7 % many)
	}
	for fd := range many {
		x.Close(fd)
	}
	if *x != (Table{}) {
		t.Error("something is kept")
	}
}
