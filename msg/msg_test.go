package msg

import (
	"bytes"
	"encoding/binary"
	"math"
	"math/rand"
	"slices"
	"strings"
	"testing"

	"fairlead/api"
)

// The document's numbers, written out.
const (
	wrongArg   = 1
	wrongShort = 2
	wrongForm  = 3

	hello  = 1
	notify = 2
	goOn   = 3
	errno  = 4
	file   = 5
	ask    = 6
	is     = 7

	mostTask = 4
	mostPath = 256
	mostBody = 512
)

// row is one of the chapter's table: what messages of a kind have beside Epoch.
type row struct {
	id, call, val bool
	most          int // the greatest Val
}

// table are its rows, each at its kind.
var table = [8]row{
	hello:  {},
	notify: {id: true, call: true},
	goOn:   {id: true},
	errno:  {id: true, val: true, most: 65535},
	file:   {id: true, val: true, most: 65535},
	ask:    {id: true},
	is:     {id: true, val: true, most: 1},
}

// may tells by the table whether a message may be, field by field.
func may(m api.Msg) bool {
	if m.Kind < 1 || m.Kind > 7 {
		return false
	}
	has := table[m.Kind]
	idFits := has.id || m.ID == 0
	callFits := m.Task == 0 && m.Data == api.Data{} && m.Path == ""
	if has.call {
		callFits = 1 <= m.Task && m.Task <= mostTask && len(m.Path) <= mostPath
	}
	return idFits && callFits && 0 <= m.Val && m.Val <= has.most
}

// laid are a message's bytes by the words of P17.1, whether it may be or not.
func laid(t *testing.T, m api.Msg) string {
	t.Helper()
	has := table[m.Kind]
	var b bytes.Buffer
	lay := func(order binary.ByteOrder, part any) {
		t.Helper()
		if err := binary.Write(&b, order, part); err != nil {
			t.Fatal(err)
		}
	}
	lay(binary.BigEndian, uint8(m.Kind))
	lay(binary.BigEndian, m.Epoch)
	if has.id {
		lay(binary.BigEndian, m.ID)
	}
	if has.call {
		lay(binary.BigEndian, uint8(m.Task))
		lay(binary.LittleEndian, m.Data)
		lay(binary.BigEndian, uint16(len(m.Path)))
		b.WriteString(m.Path)
	}
	if has.val {
		lay(binary.BigEndian, uint16(m.Val))
	}
	return b.String()
}

// size is how many bytes there must be of a message, as far as these tell it.
func size(b string) int {
	switch b[0] {
	case hello:
		return 9
	case goOn, ask:
		return 17
	case errno, file, is:
		return 19
	}
	if len(b) < 84 {
		return 84
	}
	return 84 + 256*int(b[82]) + int(b[83])
}

// told is the message of bytes by the words of P17.2.
func told(b string) (api.Msg, api.Errno) {
	switch {
	case b == "":
		return api.Msg{}, wrongShort
	case b[0] < 1 || b[0] > 7:
		return api.Msg{}, wrongForm
	case len(b) < size(b):
		return api.Msg{}, wrongShort
	case len(b) > size(b):
		return api.Msg{}, wrongForm
	}
	high, low := binary.BigEndian, binary.LittleEndian
	at := []byte(b)
	has := table[b[0]]
	m := api.Msg{Kind: int(b[0]), Epoch: high.Uint64(at[1:])}
	if has.id {
		m.ID = high.Uint64(at[9:])
	}
	if has.val {
		m.Val = int(high.Uint16(at[17:]))
	}
	if has.call {
		m.Task, m.Path = int(b[17]), b[84:]
		m.Data = api.Data{Nr: low.Uint32(at[18:]), Arch: low.Uint32(at[22:]), Ip: low.Uint64(at[26:])}
		for arg := range m.Data.Args {
			m.Data.Args[arg] = low.Uint64(at[34+8*arg:])
		}
	}
	if !may(m) {
		return api.Msg{}, wrongArg
	}
	return m, api.OK
}

// text is one of so many bytes, scattered, but the same each time.
func text(size int, seed uint32) string {
	b := make([]byte, size)
	for i := range b {
		seed = seed*1664525 + 1013904223
		b[i] = byte(seed >> 24)
	}
	return string(b)
}

// allBytes is a text of all bytes that there are: 256 of them.
func allBytes() string {
	b := make([]byte, 256)
	for i := range b {
		b[i] = byte(i)
	}
	return string(b)
}

// wides are the numbers that Epoch and ID are asked with.
func wides() []uint64 {
	l := []uint64{0, 1, 2, 255, 256, 258, 1<<32 - 1, 1 << 32, 1<<32 + 1, 0x0102030405060708, 1<<63 - 1, 1 << 63, math.MaxUint64 - 1, math.MaxUint64}
	for bit := range 64 {
		l = append(l, 1<<bit)
	}
	return l
}

// paths are of every length at an edge, and of bytes of every kind.
func paths() []string {
	return []string{
		"", "/", "a", "\x00", "\xff", "/a", "/l/x", "/etc/passwd", "\x00\x00", "\xff\xfe\xc3", "/ä/日", " \t\n\\\"", "\x02\x00\x01",
		text(254, 1), text(255, 2), allBytes(), text(256, 3), strings.Repeat("/", 256), strings.Repeat("\x00", 256), strings.Repeat("\xff", 255),
	}
}

// calls have each of their numbers alone, all of them, and the greatest ones.
func calls() []api.Data {
	all := api.Data{Nr: 0x04030201, Arch: 0x08070605, Ip: 0x100f0e0d0c0b0a09}
	most := api.Data{Nr: math.MaxUint32, Arch: math.MaxUint32, Ip: math.MaxUint64}
	l := []api.Data{{}, {Nr: 257}, {Arch: api.Arch}}
	for _, n := range wides() {
		l = append(l, api.Data{Nr: uint32(n)}, api.Data{Arch: uint32(n)}, api.Data{Ip: n})
		for arg := range 6 {
			var one api.Data
			one.Args[arg] = n
			l = append(l, one)
		}
	}
	for arg := range 6 {
		all.Args[arg] = 0x0807060504030201 + 0x0808080808080808*uint64(arg+2)
		most.Args[arg] = math.MaxUint64
	}
	return append(l, all, most)
}

// vals are those that messages of a kind may have.
func vals(kind int) []int {
	if kind == is {
		return []int{0, 1}
	}
	return []int{0, 1, 2, 13, 127, 128, 255, 256, 257, 258, 32767, 32768, 65534, 65535}
}

// ofKind are messages of a kind that may be, with each thing that they have at each of its edges.
func ofKind(kind int) []api.Msg {
	has := table[kind]
	begun := api.Msg{Kind: kind, Epoch: 3}
	if has.id {
		begun.ID = 5
	}
	if has.call {
		begun.Task = 1
	}
	l := []api.Msg{begun}
	with := func(set func(m *api.Msg)) {
		m := begun
		set(&m)
		l = append(l, m)
	}
	for _, n := range wides() {
		with(func(m *api.Msg) { m.Epoch = n })
		if has.id {
			with(func(m *api.Msg) { m.ID = n })
			with(func(m *api.Msg) { m.Epoch, m.ID = n, n })
			with(func(m *api.Msg) { m.Epoch, m.ID = n, ^n })
		}
	}
	if has.call {
		for task := 1; task <= mostTask; task++ {
			with(func(m *api.Msg) { m.Task = task })
			for _, path := range paths() {
				with(func(m *api.Msg) { m.Task, m.Path = task, path })
			}
		}
		for _, d := range calls() {
			with(func(m *api.Msg) { m.Data = d })
			with(func(m *api.Msg) { m.Data, m.Path = d, "/a" })
		}
	}
	if has.val {
		for _, val := range vals(kind) {
			with(func(m *api.Msg) { m.Val = val })
			with(func(m *api.Msg) { m.Epoch, m.ID, m.Val = 0, 0, val })
		}
	}
	return l
}

// messages are those of all kinds that may be.
func messages() []api.Msg {
	var l []api.Msg
	for kind := hello; kind <= is; kind++ {
		l = append(l, ofKind(kind)...)
	}
	return l
}

// few are messages of all kinds, short ones and long ones, for tests that ask much of each.
func few() []api.Msg {
	all := calls()
	d := all[len(all)-2] // that in which no two bytes are the same
	return []api.Msg{
		{Kind: hello}, {Kind: hello, Epoch: 2}, {Kind: hello, Epoch: math.MaxUint64},
		{Kind: notify, Task: 1}, {Kind: notify, Epoch: 2, ID: 7, Task: 4, Data: d, Path: "/l/x"},
		{Kind: notify, Epoch: 1 << 32, ID: math.MaxUint64, Task: 3, Data: d, Path: allBytes()},
		{Kind: goOn}, {Kind: goOn, Epoch: 1, ID: 258},
		{Kind: errno}, {Kind: errno, Epoch: 1, ID: 2, Val: 65535},
		{Kind: file}, {Kind: file, Epoch: 1, ID: 2, Val: 3},
		{Kind: ask}, {Kind: ask, Epoch: math.MaxUint64, ID: 1},
		{Kind: is}, {Kind: is, Epoch: 1, ID: 7, Val: 1},
	}
}

// mustMay asks whether a message may be, and for its bytes.
func mustMay(t *testing.T, m api.Msg) {
	t.Helper()
	want := laid(t, m)
	if !Right(m) {
		t.Fatalf("Right(%#v): false", m)
	}
	if b, wrong := Encode(m); string(b) != want || wrong != api.OK {
		t.Fatalf("Encode(%#v): %q, %v, not %q", m, b, wrong, want)
	}
}

// mustNot asks for the bytes of a message that may not be.
func mustNot(t *testing.T, m api.Msg) {
	t.Helper()
	if Right(m) {
		t.Fatalf("Right(%#v): true", m)
	}
	if b, wrong := Encode(m); len(b) != 0 || wrong != wrongArg {
		t.Fatalf("Encode(%#v): %q, %v", m, b, wrong)
	}
}

// mustFail asks for a message of bytes that are none's.
func mustFail(t *testing.T, b string, want api.Errno) {
	t.Helper()
	if m, wrong := Decode([]byte(b)); m != (api.Msg{}) || wrong != want {
		t.Fatalf("Decode(%.200q) of %d bytes: %#v, %v, not %v", b, len(b), m, wrong, want)
	}
}

// mustBeTold holds Decode against the words.
func mustBeTold(t *testing.T, b string) {
	t.Helper()
	want, wanted := told(b)
	if m, wrong := Decode([]byte(b)); m != want || wrong != wanted {
		t.Fatalf("Decode(%q): %#v, %v, not %#v, %v", b, m, wrong, want, wanted)
	}
}

// P17.1 and P17.2: the chapter's examples.
func TestExamples(t *testing.T) {
	b, wrong := Encode(api.Msg{Kind: api.MsgGo, Epoch: 1, ID: 258})
	if want := []byte{3, 0, 0, 0, 0, 0, 0, 0, 1, 0, 0, 0, 0, 0, 0, 1, 2}; !bytes.Equal(b, want) || wrong != api.OK {
		t.Error("MsgGo:", b, wrong)
	}
	b, wrong = Encode(api.Msg{Kind: api.MsgHello})
	if !bytes.Equal(b, []byte{1, 0, 0, 0, 0, 0, 0, 0, 0}) || wrong != api.OK {
		t.Error("MsgHello:", b, wrong)
	}
	mustFail(t, "\x09", wrongForm)
}

// P17.1: a message of each kind, written out.
func TestEachKindWrittenOut(t *testing.T) {
	d := api.Data{Nr: 0x04030201, Arch: 0x08070605, Ip: 0x100f0e0d0c0b0a09, Args: [6]uint64{
		0x1817161514131211, 0x201f1e1d1c1b1a19, 0x2827262524232221, 0x302f2e2d2c2b2a29, 0x3837363534333231, 0x403f3e3d3c3b3a39,
	}}
	var rising strings.Builder
	for n := range 64 {
		rising.WriteByte(byte(n + 1))
	}
	const epoch, id = "\xa1\xa2\xa3\xa4\xa5\xa6\xa7\xa8", "\xb1\xb2\xb3\xb4\xb5\xb6\xb7\xb8"
	for _, c := range []struct {
		m    api.Msg
		want string
	}{
		{api.Msg{Kind: api.MsgHello}, "\x01" + epoch},
		{api.Msg{Kind: api.MsgNotify, Task: 3, Data: d, Path: "/l/\xff"}, "\x02" + epoch + id + "\x03" + rising.String() + "\x00\x04/l/\xff"},
		{api.Msg{Kind: api.MsgGo}, "\x03" + epoch + id},
		{api.Msg{Kind: api.MsgErrno, Val: 0x0102}, "\x04" + epoch + id + "\x01\x02"},
		{api.Msg{Kind: api.MsgFd, Val: 0xfffe}, "\x05" + epoch + id + "\xff\xfe"},
		{api.Msg{Kind: api.MsgAsk}, "\x06" + epoch + id},
		{api.Msg{Kind: api.MsgIs, Val: 1}, "\x07" + epoch + id + "\x00\x01"},
	} {
		c.m.Epoch = 0xa1a2a3a4a5a6a7a8
		if c.m.Kind != api.MsgHello {
			c.m.ID = 0xb1b2b3b4b5b6b7b8
		}
		if b, wrong := Encode(c.m); string(b) != c.want || wrong != api.OK {
			t.Errorf("Encode(%#v): %q, %v, not %q", c.m, b, wrong, c.want)
		}
		if m, wrong := Decode([]byte(c.want)); m != c.m || wrong != api.OK {
			t.Errorf("Decode(%q): %#v, %v, not %#v", c.want, m, wrong, c.m)
		}
	}
}

// Examples 6 to 9 of the whole, as far as messages go: a call that waits as the ID 7 is told, asked about, found there and
// given a file; the same answer twice is the same bytes; the task is gone; a supervisor that rose says so in the epoch 2.
func TestExamplesOfTheWhole(t *testing.T) {
	open := api.Data{Nr: 2, Arch: 0xC000003E, Args: [6]uint64{0, 2}}
	answer := api.Msg{Kind: api.MsgFd, Epoch: 1, ID: 7, Val: 3}
	lengths := []int{90, 17, 19, 19, 19, 9, 95}
	for i, m := range []api.Msg{
		{Kind: api.MsgNotify, Epoch: 1, ID: 7, Task: 1, Data: open, Path: "/etc/x"},
		{Kind: api.MsgAsk, Epoch: 1, ID: 7},
		{Kind: api.MsgIs, Epoch: 1, ID: 7, Val: 1},
		answer,
		{Kind: api.MsgIs, Epoch: 1, ID: 7, Val: 0},
		{Kind: api.MsgHello, Epoch: 2},
		{Kind: api.MsgNotify, Epoch: 2, ID: 8, Task: 4, Data: open, Path: "/l/x\x00behind"},
	} {
		mustMay(t, m)
		b, _ := Encode(m)
		if len(b) != lengths[i] {
			t.Errorf("%#v: %d bytes, not %d", m, len(b), lengths[i])
		}
		if got, wrong := Decode(b); got != m || wrong != api.OK {
			t.Errorf("Decode of %#v: %#v, %v", m, got, wrong)
		}
	}
	first, _ := Encode(answer)
	second, _ := Encode(answer)
	if !bytes.Equal(first, second) {
		t.Error("an answer that is told twice:", first, second)
	}
}

// P17.1: messages of each kind, with each thing that they have at each of its edges.
func TestWhatMayBe(t *testing.T) {
	for _, m := range messages() {
		if !may(m) {
			t.Fatalf("the test's own: %#v", m)
		}
		mustMay(t, m)
	}
}

// P17.1: a Kind that is none's, whatever else there is. Modulo 256 some of them would be one.
func TestKindsThatAreNone(t *testing.T) {
	kinds := []int{0, 8, 9, 255, 256, 257, 258, 263, 264, 1 << 16, 1<<16 + 3, 1 << 32, 1<<32 + 1, math.MaxInt, math.MinInt, math.MinInt + 3}
	for less := 1; less <= 600; less++ {
		kinds = append(kinds, -less, 7+less)
	}
	for _, kind := range kinds {
		for _, m := range few() {
			m.Kind = kind
			mustNot(t, m)
		}
		mustNot(t, api.Msg{Kind: kind})
	}
	mustNot(t, api.Msg{})
}

// P17.1: of each Kind each thing that it does not have, alone, and by whatever it is not its zero value.
func TestWhatAKindDoesNotHave(t *testing.T) {
	var all []api.Msg
	for kind := hello; kind <= is; kind++ {
		for _, n := range wides() {
			all = append(all, api.Msg{Kind: kind, ID: n})
		}
		for _, n := range []int{1, 2, 4, 5, 65535, 65536, -1, math.MaxInt, math.MinInt} {
			all = append(all, api.Msg{Kind: kind, Task: n}, api.Msg{Kind: kind, Val: n})
		}
		for _, d := range calls() {
			all = append(all, api.Msg{Kind: kind, Data: d})
		}
		for _, path := range paths() {
			all = append(all, api.Msg{Kind: kind, Path: path})
		}
	}
	count := 0
	for _, m := range all {
		if table[m.Kind].call && m.Task == 0 {
			m.Task = 2 // without a task it may not be, whatever else stands there
		}
		m.Epoch = 9
		if may(m) {
			mustMay(t, m)
		} else {
			mustNot(t, m)
			count++
		}
	}
	if count == 0 || count == len(all) {
		t.Error("so many may not be:", count)
	}
	for _, m := range []api.Msg{
		{Kind: hello, ID: 1}, {Kind: hello, Task: 1}, {Kind: hello, Val: 1}, {Kind: hello, Path: "/"}, {Kind: hello, Data: api.Data{Nr: 1}},
		{Kind: notify, Task: 1, Val: 1},
		{Kind: goOn, Task: 1}, {Kind: goOn, Val: 1}, {Kind: goOn, Path: "\x00"}, {Kind: goOn, Data: api.Data{Ip: 1}},
		{Kind: errno, Task: 1}, {Kind: errno, Path: "/"}, {Kind: errno, Data: api.Data{Arch: 1}},
		{Kind: file, Task: 1}, {Kind: file, Path: "/"}, {Kind: file, Data: api.Data{Args: [6]uint64{5: 1}}},
		{Kind: ask, Task: 1}, {Kind: ask, Val: 1}, {Kind: ask, Path: "/"}, {Kind: ask, Data: api.Data{Args: [6]uint64{1}}},
		{Kind: is, Task: 1}, {Kind: is, Path: "/"}, {Kind: is, Data: api.Data{Nr: 1}},
	} {
		mustNot(t, m)
	}
}

// P17.1: a task of MsgNotify is 1 to 4. Modulo 256 or 2^32 some others would be one.
func TestTask(t *testing.T) {
	for _, task := range []int{0, 5, 6, 255, 256, 257, 260, 1<<16 + 1, 1<<32 + 1, math.MaxInt, -1, -2, -4, -252, -255, -1 << 32, math.MinInt, math.MinInt + 1} {
		mustNot(t, api.Msg{Kind: notify, Epoch: 1, ID: 1, Task: task, Path: "/a"})
	}
	for _, task := range []int{1, 2, 3, 4} {
		mustMay(t, api.Msg{Kind: notify, Epoch: 1, ID: 1, Task: task, Path: "/a"})
	}
}

// P17.1: a Val is 0 to 65535, of MsgIs 0 or 1, and modulo 65536 some others would be one.
func TestVal(t *testing.T) {
	for kind := hello; kind <= is; kind++ {
		for _, val := range []int{-1, -2, -65535, -65536, 65536, 65537, 1 << 17, 1 << 32, 1<<32 + 1, math.MaxInt, math.MinInt, math.MinInt + 1} {
			mustNot(t, api.Msg{Kind: kind, Epoch: 1, Val: val})
			if kind == notify {
				mustNot(t, api.Msg{Kind: kind, Task: 1, Val: val})
			}
		}
	}
	for val := range 65536 {
		for _, kind := range []int{errno, file} {
			if m := (api.Msg{Kind: kind, ID: 1, Val: val}); !Right(m) {
				t.Fatalf("Right(%#v): false", m)
			}
		}
		if m := (api.Msg{Kind: is, ID: 1, Val: val}); Right(m) != (val <= 1) {
			t.Fatalf("Right(%#v): %v", m, Right(m))
		}
	}
	mustNot(t, api.Msg{Kind: is, Val: 2})
	mustNot(t, api.Msg{Kind: is, Val: 65535})
}

// P17.1: a path has at most 256 bytes. With 65536 more its length would be the same again by two bytes.
func TestPath(t *testing.T) {
	for n := range 257 {
		mustMay(t, api.Msg{Kind: notify, Task: 1, Path: text(n, uint32(n))})
	}
	for _, n := range []int{257, 258, 300, 511, 512, 513, 4096, 65535, 65536, 65537, 65792, 1 << 20} {
		mustNot(t, api.Msg{Kind: notify, Task: 1, Path: text(n, 1)})
	}
	for n := range 256 {
		mustMay(t, api.Msg{Kind: notify, Task: 1, Path: string([]byte{byte(n)})})
	}
}

// P17.2: no bytes, nil or empty (R2).
func TestNoBytes(t *testing.T) {
	for _, b := range [][]byte{nil, {}, make([]byte, 0, 600), []byte("\x01\x02")[:0]} {
		if m, wrong := Decode(b); m != (api.Msg{}) || wrong != wrongShort {
			t.Errorf("Decode of nothing: %#v, %v", m, wrong)
		}
	}
}

// P17.2: a Kind that is none is ErrForm, alone and with anything behind: too little, enough and too much of any message.
func TestBytesOfNoKind(t *testing.T) {
	for kind := range 256 {
		if hello <= kind && kind <= is {
			continue
		}
		begun := string([]byte{byte(kind)})
		for n := range 110 {
			mustFail(t, begun+strings.Repeat("\x01", n), wrongForm)
		}
		mustFail(t, begun+text(513, 4), wrongForm)
		mustFail(t, begun+text(70000, 4), wrongForm)
		for _, m := range few() {
			mustFail(t, begun+laid(t, m), wrongForm)
			mustFail(t, begun+laid(t, m)[1:], wrongForm)
		}
	}
}

// P17.2: each message's bytes, cut off at every place.
func TestCutOff(t *testing.T) {
	for _, m := range append(messages(), few()...) {
		b := laid(t, m)
		for cut := range len(b) {
			mustFail(t, b[:cut], wrongShort)
		}
	}
}

// P17.2: what is cut off is ErrShort also where what is there of it may not be.
func TestCutOffAndNotRight(t *testing.T) {
	for _, m := range []api.Msg{
		{Kind: notify, Task: 0, Path: "/a"}, {Kind: notify, Task: 5, Path: "/a"}, {Kind: notify, Task: 255}, {Kind: is, Val: 2}, {Kind: is, Val: 65535},
		{Kind: notify, Task: 1, Path: text(257, 1)}, {Kind: notify, Task: 1, Path: text(65535, 1)}, {Kind: notify, Task: 9, Path: text(300, 1)},
	} {
		b := laid(t, m)
		for cut := range min(len(b), 600) {
			mustFail(t, b[:cut], wrongShort)
		}
		mustFail(t, b[:len(b)-1], wrongShort)
		mustFail(t, b, wrongArg)
	}
}

// P17.2: bytes that are left, one and many, of whatever kind.
func TestBytesAreLeft(t *testing.T) {
	for _, m := range append(messages(), few()...) {
		b := laid(t, m)
		for _, more := range []string{"\x00", "\x01", "\x03", "\xff", "\x00\x00", b, text(500, 6)} {
			mustFail(t, b+more, wrongForm)
		}
	}
	for _, m := range few() {
		b := laid(t, m)
		for n := range 256 {
			mustFail(t, b+string([]byte{byte(n)}), wrongForm)
		}
		for n := 1; n <= 300; n++ {
			mustFail(t, b+text(n, uint32(n)), wrongForm)
		}
		mustFail(t, b+text(1<<20, 1), wrongForm)
		for _, other := range few() {
			mustFail(t, b+laid(t, other), wrongForm)
		}
	}
}

// P17.2: what is read and may not be is ErrArg; with bytes that are left it is ErrForm.
func TestReadAndNotRight(t *testing.T) {
	d := calls()[len(calls())-1]
	var all []api.Msg
	for _, task := range []int{0, 5, 6, 127, 128, 254, 255} {
		all = append(all, api.Msg{Kind: notify, Epoch: 1, ID: 2, Task: task, Path: "/a"}, api.Msg{Kind: notify, Task: task, Data: d})
	}
	for _, n := range []int{257, 258, 511, 512, 513, 1000, 32768, 65534, 65535} {
		all = append(all, api.Msg{Kind: notify, Task: 1, Path: text(n, 3)}, api.Msg{Kind: notify, Task: 5, Path: text(n, 3)})
	}
	for _, val := range []int{2, 3, 255, 256, 257, 32768, 65535} {
		all = append(all, api.Msg{Kind: is, Val: val}, api.Msg{Kind: is, Epoch: math.MaxUint64, ID: 1 << 32, Val: val})
	}
	for _, m := range all {
		b := laid(t, m)
		mustFail(t, b, wrongArg)
		for _, more := range []string{"\x00", "\x01", "ab", text(400, 2)} {
			mustFail(t, b+more, wrongForm)
		}
	}
}

// P17.2: of all rows of bytes by their first one, of every length to beyond the longest message's.
func TestEachLength(t *testing.T) {
	for kind := range 256 {
		for n := range 600 {
			b := string([]byte{byte(kind)})
			mustBeTold(t, b+strings.Repeat("\x00", n))
			mustBeTold(t, b+strings.Repeat("\x01", n))
			mustBeTold(t, b+text(n, uint32(n+kind)))
			if kind > is+1 && n > 40 {
				break
			}
		}
	}
}

// P17.2: each byte of each message's bytes is each other one.
func TestEachByteIsAnother(t *testing.T) {
	for _, m := range few() {
		b := laid(t, m)
		for at := range len(b) {
			for c := range 256 {
				mustBeTold(t, b[:at]+string([]byte{byte(c)})+b[at+1:])
			}
		}
	}
}

// P17.2: paths of each length that two bytes tell, with as many bytes behind, one less and one more.
func TestEachPathLength(t *testing.T) {
	head := laid(t, api.Msg{Kind: notify, Epoch: 1, ID: 2, Task: 3})[:82]
	lengths := []int{32767, 32768, 65279, 65280, 65534, 65535}
	for n := range 1100 {
		lengths = append(lengths, n)
	}
	for _, n := range lengths {
		path := text(n+1, 5)
		for _, there := range []int{0, 1, n - 1, n, n + 1} {
			if there >= 0 && there <= len(path) {
				mustBeTold(t, head+string([]byte{byte(n / 256), byte(n % 256)})+path[:there])
			}
		}
	}
}

// P17.2: scattered bytes, and messages in which some bytes are others, that end early or have more behind.
func TestScattered(t *testing.T) {
	chance := rand.New(rand.NewSource(17))
	whole := few()
	for range 60000 {
		b := []byte(laid(t, whole[chance.Intn(len(whole))]))
		for range chance.Intn(4) {
			b[chance.Intn(len(b))] = byte(chance.Intn(256) >> chance.Intn(8))
		}
		switch chance.Intn(6) {
		case 0:
			b = b[:chance.Intn(len(b)+1)]
		case 1:
			b = append(b, text(chance.Intn(20), chance.Uint32())...)
		case 2:
			b = []byte(text(chance.Intn(120), chance.Uint32()))
			if len(b) > 0 {
				b[0] %= 9
			}
		}
		mustBeTold(t, string(b))
	}
}

// P17.3: what is encoded is decoded as it was.
func TestDecodeUndoesEncode(t *testing.T) {
	for _, m := range append(messages(), few()...) {
		b, wrong := Encode(m)
		if wrong != api.OK {
			t.Fatalf("Encode(%#v): %v", m, wrong)
		}
		if got, wrong := Decode(b); got != m || wrong != api.OK {
			t.Errorf("of %#v: %#v, %v", m, got, wrong)
		}
	}
}

// P17.3: of all Vals too, and of messages that are scattered over all that may be.
func TestDecodeUndoesEncodeOfScattered(t *testing.T) {
	chance := rand.New(rand.NewSource(3))
	for val := range 65536 {
		for _, kind := range []int{errno, file} {
			m := api.Msg{Kind: kind, Epoch: chance.Uint64(), ID: chance.Uint64(), Val: val}
			b, wrong := Encode(m)
			if got, again := Decode(b); got != m || wrong != api.OK || again != api.OK {
				t.Fatalf("of %#v: %#v, %v, %v", m, got, wrong, again)
			}
		}
	}
	for range 20000 {
		m := api.Msg{Kind: notify, Epoch: chance.Uint64(), ID: chance.Uint64(), Task: 1 + chance.Intn(4), Path: text(chance.Intn(257), chance.Uint32())}
		m.Data = api.Data{Nr: chance.Uint32(), Arch: chance.Uint32(), Ip: chance.Uint64()}
		for arg := range m.Data.Args {
			m.Data.Args[arg] = chance.Uint64()
		}
		b, wrong := Encode(m)
		if got, again := Decode(b); got != m || wrong != api.OK || again != api.OK || string(b) != laid(t, m) {
			t.Fatalf("of %#v: %#v, %v, %v", m, got, wrong, again)
		}
	}
}

// P17.3: what is decoded, encoded again, is the bytes.
func TestEncodeUndoesDecode(t *testing.T) {
	decoded := 0
	again := func(b []byte) {
		m, wrong := Decode(b)
		if wrong != api.OK {
			return
		}
		decoded++
		if got, wrong := Encode(m); !bytes.Equal(got, b) || wrong != api.OK || !Right(m) {
			t.Fatalf("of %q: %q, %v", b, got, wrong)
		}
	}
	for _, m := range messages() {
		again([]byte(laid(t, m)))
	}
	for _, m := range few() {
		b := []byte(laid(t, m))
		for at := range b {
			for c := range 256 {
				other := bytes.Clone(b)
				other[at] = byte(c)
				again(other)
			}
		}
	}
	for kind := range 9 {
		for n := range 400 {
			for seed := range uint32(8) {
				again(append([]byte{byte(kind)}, text(n, seed)...))
			}
		}
	}
	if decoded < 10000 {
		t.Error("only so many were messages:", decoded)
	}
}

// P17.3: unlike messages have unlike bytes, and no message's are a beginning of another one's. In order, what begins as a
// row of bytes does stands right behind it.
func TestNoneIsABeginning(t *testing.T) {
	known := make(map[api.Msg]bool)
	var rows []string
	for _, m := range append(messages(), few()...) {
		b, wrong := Encode(m)
		if wrong != api.OK {
			t.Fatalf("Encode(%#v): %v", m, wrong)
		}
		if !known[m] {
			known[m] = true
			rows = append(rows, string(b))
		}
	}
	slices.Sort(rows)
	for i, b := range rows[1:] {
		if strings.HasPrefix(b, rows[i]) {
			t.Errorf("%q begins as %q", b, rows[i])
		}
	}
}

// P17.3: all have at most 512 bytes, and there is one of each length that there may be.
func TestLengths(t *testing.T) {
	most := 0
	for _, m := range append(messages(), few()...) {
		b, _ := Encode(m)
		if len(b) == 0 || len(b) > mostBody {
			t.Errorf("%#v: %d bytes", m, len(b))
		}
		most = max(most, len(b))
	}
	if most != 340 {
		t.Error("the longest one has so many bytes:", most)
	}
	for n := range 257 {
		if b, _ := Encode(api.Msg{Kind: notify, Task: 1, Path: text(n, 1)}); len(b) != 84+n {
			t.Errorf("with a path of %d: %d bytes", n, len(b))
		}
	}
}

// R3: bytes that are handed in stay as they are, with the room behind them, which is not read, and may be changed afterwards.
func TestHandedInIsNotShared(t *testing.T) {
	for _, m := range few() {
		whole := laid(t, m)
		room := []byte(whole + text(40, 8))
		kept := bytes.Clone(room)
		got, wrong := Decode(room[:len(whole)])
		for cut := range len(whole) {
			if other, e := Decode(room[:cut]); other != (api.Msg{}) || e != wrongShort {
				t.Fatalf("with room behind %d bytes: %#v, %v", cut, other, e)
			}
		}
		if !bytes.Equal(room, kept) {
			t.Errorf("Decode of %#v changed what was handed in", m)
		}
		for i := range room {
			room[i] ^= 0xff
		}
		if got != m || wrong != api.OK {
			t.Errorf("what was changed behind Decode of %#v is seen: %#v, %v", m, got, wrong)
		}
	}
}

// R3: bytes that are told are the caller's own: to be changed, and to be gone on with.
func TestToldIsNotShared(t *testing.T) {
	for _, m := range few() {
		want := laid(t, m)
		first, _ := Encode(m)
		second, _ := Encode(m)
		clear(first[:cap(first)])
		if string(second) != want {
			t.Errorf("two answers of %#v share their bytes", m)
		}
		_ = append(second[:1], text(600, 1)...)
		if third, wrong := Encode(m); string(third) != want || wrong != api.OK {
			t.Errorf("Encode of %#v, behind one that was changed: %q, %v", m, third, wrong)
		}
	}
	path := []byte("/l/x")
	m := api.Msg{Kind: notify, Task: 1, Path: string(path)}
	b, _ := Encode(m)
	clear(b[:cap(b)])
	if m.Path != "/l/x" {
		t.Errorf("the path went along with its bytes: %q", m.Path)
	}
}

// R4: what is told hangs on what is handed in alone: not on what was wrong, or told, before.
func TestEachCallStandsAlone(t *testing.T) {
	good, bad := few(), []api.Msg{{}, {Kind: 8}, {Kind: notify}, {Kind: is, Val: 2}, {Kind: hello, ID: 1}}
	for _, m := range good {
		for _, other := range bad {
			Encode(other)
			mustMay(t, m)
			mustNot(t, other)
		}
		for _, b := range []string{"", "\x09", "\x01\x02", laid(t, m) + "x"} {
			Decode([]byte(b))
			if got, wrong := Decode([]byte(laid(t, m))); got != m || wrong != api.OK {
				t.Errorf("Decode of %#v, behind %q: %#v, %v", m, b, got, wrong)
			}
		}
	}
}

// P0: very many bytes end soon too, and a very long path.
func TestVeryMany(t *testing.T) {
	many := strings.Repeat("\x02", 1<<22)
	mustFail(t, many, wrongForm)
	mustFail(t, "\x00"+many, wrongForm)
	mustFail(t, "\x01"+many, wrongForm)
	for kind := range 9 {
		mustNot(t, api.Msg{Kind: kind, Task: 1, Path: many[:1<<16]})
	}
}
