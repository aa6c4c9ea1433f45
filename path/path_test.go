package path

import (
	"iter"
	"math/rand"
	"slices"
	"strings"
	"testing"
	"unsafe"

	"fairlead/api"
)

// The document's numbers, written out.
const (
	errArg = 1

	most = 256
)

// slowRight follows the words: it begins with /, has at most 256 bytes, and none of them is 0.
func slowRight(s string) bool {
	nought := 0
	for _, b := range []byte(s) {
		if b == 0 {
			nought++
		}
	}
	return len(s) >= 1 && len(s) <= most && s[0] == '/' && nought == 0
}

// slowParts are what stands between the / of a path that may be, and behind the last one, whatever it is.
func slowParts(s string) []string {
	var parts []string
	end := len(s)
	for i := len(s) - 1; i >= 0; i-- {
		if s[i] == '/' {
			parts = append(parts, s[i+1:end])
			end = i
		}
	}
	slices.Reverse(parts)
	return parts
}

func slowNames(s string) []string {
	if !slowRight(s) {
		return nil
	}
	return slices.DeleteFunc(slowParts(s), func(part string) bool { return part == "" || part == "." })
}

func slowJoin(l []string) string {
	whole := ""
	for _, name := range l {
		whole += "/" + name
	}
	if len(l) == 0 {
		whole = "/"
	}
	return whole
}

// slowClean goes from the back to the front: each .. there waits for the next name that is none, which it takes away.
func slowClean(s string) (string, api.Errno) {
	if !slowRight(s) {
		return "", errArg
	}
	clean, waiting := "", 0
	for _, name := range slices.Backward(slowNames(s)) {
		switch {
		case name == "..":
			waiting++
		case waiting > 0:
			waiting--
		default:
			clean = "/" + name + clean
		}
	}
	if clean == "" {
		clean = "/"
	}
	return clean, 0
}

// slowUp cuts the text at its last /.
func slowUp(s string) (string, api.Errno) {
	clean, wrong := slowClean(s)
	if wrong != 0 {
		return "", wrong
	}
	return "/" + strings.TrimPrefix(clean[:strings.LastIndex(clean, "/")], "/"), 0
}

// slowWithin holds texts against each other, with a / behind each.
func slowWithin(s, dir string) bool {
	if !slowRight(s) || !slowRight(dir) {
		return false
	}
	one, _ := slowClean(s)
	other, _ := slowClean(dir)
	return strings.HasPrefix(strings.TrimSuffix(one, "/")+"/", strings.TrimSuffix(other, "/")+"/")
}

// isClean follows the words.
func isClean(s string) bool {
	if s == "/" {
		return true
	}
	unclean := func(part string) bool { return part == "" || part == "." || part == ".." }
	return slowRight(s) && !slices.ContainsFunc(slowParts(s), unclean)
}

// all are the names that a function hands out.
func all(seq iter.Seq[string]) []string {
	var l []string
	for name := range seq {
		l = append(l, name)
	}
	return l
}

// first are those of them that are handed out till it is told to stop, which is at the name of this number, from 1 on.
func first(n int, seq iter.Seq[string]) []string {
	var l []string
	for name := range seq {
		l = append(l, name)
		if len(l) == n {
			break
		}
	}
	return l
}

func hands(t *testing.T, s string, want ...string) {
	t.Helper()
	if l := all(Names(s)); !slices.Equal(l, want) {
		t.Errorf("Names(%.300q): %.300q, not %.300q", s, l, want)
	}
}

func joins(t *testing.T, want string, l ...string) {
	t.Helper()
	if s := Join(l); s != want {
		t.Errorf("Join(%.300q): %.300q, not %.300q", l, s, want)
	}
}

func cleans(t *testing.T, s, want string) {
	t.Helper()
	if c, wrong := Clean(s); c != want || wrong != 0 {
		t.Errorf("Clean(%.300q): %.300q, %d, not %.300q", s, c, wrong, want)
	}
}

func leadsUp(t *testing.T, s, want string) {
	t.Helper()
	if u, wrong := Up(s); u != want || wrong != 0 {
		t.Errorf("Up(%.300q): %.300q, %d, not %.300q", s, u, wrong, want)
	}
}

func stands(t *testing.T, want bool, s, dir string) {
	t.Helper()
	if is := Within(s, dir); is != want {
		t.Errorf("Within(%.300q, %.300q): %v", s, dir, is)
	}
}

// refuses fails if a path may be, or if a call tells something else of it than that it may not be.
func refuses(t *testing.T, s string) {
	t.Helper()
	if Right(s) {
		t.Errorf("Right(%.300q)", s)
	}
	hands(t, s)
	if c, wrong := Clean(s); c != "" || wrong != errArg {
		t.Errorf("Clean(%.300q): %.300q, %d", s, c, wrong)
	}
	if u, wrong := Up(s); u != "" || wrong != errArg {
		t.Errorf("Up(%.300q): %.300q, %d", s, u, wrong)
	}
	for _, other := range []string{"/", "/a", s} {
		stands(t, false, s, other)
		stands(t, false, other, s)
	}
}

func mustClean(t *testing.T, s string) string {
	t.Helper()
	clean, wrong := Clean(s)
	if wrong != 0 {
		t.Fatalf("Clean(%.300q): %d", s, wrong)
	}
	return clean
}

func mustUp(t *testing.T, s string) string {
	t.Helper()
	up, wrong := Up(s)
	if wrong != 0 {
		t.Fatalf("Up(%.300q): %d", s, wrong)
	}
	return up
}

// follows fails if a call tells something else of a path than the document's words do.
func follows(t *testing.T, s string) {
	t.Helper()
	if may := Right(s); may != slowRight(s) {
		t.Errorf("Right(%.300q): %v", s, may)
	}
	if l := all(Names(s)); !slices.Equal(l, slowNames(s)) {
		t.Errorf("Names(%.300q): %.300q", s, l)
	}
	want, wrong := slowClean(s)
	if c, e := Clean(s); c != want || e != wrong {
		t.Errorf("Clean(%.300q): %.300q, %d, not %.300q, %d", s, c, e, want, wrong)
	}
	want, wrong = slowUp(s)
	if u, e := Up(s); u != want || e != wrong {
		t.Errorf("Up(%.300q): %.300q, %d, not %.300q, %d", s, u, e, want, wrong)
	}
}

// wrongPaths are such as may not be, for each reason and for several at once.
func wrongPaths() []string {
	return []string{
		"", "a", ".", "..", "a/b", "./a", "../a", " /a", "\x00", "\x00/a", "/\x00", "/\x00a", "/a\x00", "/a\x00b", "/a\x00/b", "/a/\x00",
		"/a/..\x00", "//\x00//", "\xff/", "\u2044a", "\\a", "~/a",
		strings.Repeat("/", most+1), "/" + strings.Repeat("a", most), strings.Repeat("/a", most/2) + "/", strings.Repeat("/a", most),
		strings.Repeat("/..", 100), "/" + strings.Repeat("a", 1<<16), strings.Repeat("a", most), strings.Repeat("a", most+1),
		"/" + strings.Repeat("a", most) + "\x00", "/" + strings.Repeat("\x00", 300), "\x00" + strings.Repeat("/", most-1),
		strings.Repeat("/", most-1) + "\x00",
	}
}

// rightPaths are such as may be, of each kind that the document speaks of.
func rightPaths() []string {
	return []string{
		"/", "//", "///", "/.", "/./", "/..", "/../", "/../..", "/a", "/a/", "/a/.", "/a/..", "/a/../", "/a/../b", "/ab", "/a/b", "/a/b/",
		"//a//b", "/./a/./b/.", "/a/b/..", "/a/b/../..", "/a/b/../../..", "/...", "/.a", "/a.", "/..a", "/a..", "/a/...", "/ ", "/\n", "/*",
		"/\x01", "/\x7f", "/\x80", "/\xff", "/\xc3", "/\xc3\xa4", "/\xed\xa0\x80/a", "/a\x01b/..", "/etc/x", "/l/x",
		"/" + strings.Repeat("a", most-1), strings.Repeat("/a", most/2), strings.Repeat("/", most), strings.Repeat("/..", most/3),
		strings.Repeat("/", most-1) + "a", "/" + strings.Repeat("a", most-2) + "/",
	}
}

// short are all texts of up to so many bytes out of a few.
func short(bytes string, n int) []string {
	texts := []string{""}
	from := 0
	for range n {
		till := len(texts)
		for _, text := range texts[from:till] {
			for i := range len(bytes) {
				texts = append(texts, text+bytes[i:i+1])
			}
		}
		from = till
	}
	return texts
}

// scattered is a text of so many bytes out of those that matter, or of all, most of which begin with /.
func scattered(r *rand.Rand, n int) string {
	kinds := []string{"/.", "/..", "/a", "/ab", "/", "/...", ".", "a", "b", "//", "/../..", "/a/..", "/é", "\xff"}
	var b strings.Builder
	for b.Len() < n {
		switch r.Intn(40) {
		case 0:
			b.WriteByte(byte(r.Intn(256)))
		case 1:
			b.WriteString(strings.Repeat("c", r.Intn(60)))
		default:
			b.WriteString(kinds[r.Intn(len(kinds))])
		}
	}
	s := b.String()[:n]
	if n > 0 && r.Intn(16) > 0 {
		s = "/" + s[1:]
	}
	return s
}

// The numbers that api gives the error and the limit.
func TestNumbersAreNamed(t *testing.T) {
	if api.OK != 0 || api.ErrArg != errArg || api.MaxPath != most {
		t.Error("numbers")
	}
}

// P22.2, P22.3: the chapter's examples.
func TestExamples(t *testing.T) {
	cleans(t, "/a//b/./../c/", "/a/c")
	cleans(t, "/..", "/")
	refuses(t, "a")
	leadsUp(t, "/a/b", "/a")
	stands(t, true, "/a/b", "/a")
	stands(t, false, "/ab", "/a")
}

// P22.1 to P22.3: of the example 10 of the whole what paths have of it as they are written: /l/x does not stand within /etc,
// as nothing of it tells of a link; with the link's Target in the place of /l it is /etc/x, which does.
func TestExamplesOfTheWhole(t *testing.T) {
	cleans(t, "/l/x", "/l/x")
	hands(t, "/l/x", "l", "x")
	leadsUp(t, "/l/x", "/l")
	stands(t, false, "/l/x", "/etc")
	names := slices.Concat(all(Names("/etc")), all(Names("/l/x"))[1:])
	joins(t, "/etc/x", names...)
	cleans(t, Join(names), "/etc/x")
	leadsUp(t, Join(names), "/etc")
	stands(t, true, Join(names), "/etc")
	stands(t, true, Join(names), "/")
	stands(t, false, Join(names), "/l")
}

// P22.1: a path begins with /: the empty text does not, nor one with anything ahead of it.
func TestRightAsksForASlashAhead(t *testing.T) {
	for _, s := range []string{"/", "//", "/a", "/.", "/..", "/a/", "/ ", "/\n"} {
		if !Right(s) {
			t.Errorf("Right(%q)", s)
		}
	}
	refuses(t, "")
	for b := range 256 {
		one := string([]byte{byte(b)})
		if may := Right(one); may != (one == "/") {
			t.Errorf("Right(%q): %v", one, may)
		}
		if may := Right(one + "/a"); may != (one == "/") {
			t.Errorf("Right(%q): %v", one+"/a", may)
		}
	}
}

// P22.1: at most 256 bytes: bytes are counted, not letters.
func TestRightAsksForItsLength(t *testing.T) {
	for _, fill := range []string{"a", "/", ".", "a/", "/.", "\xff", "é", "日本"} {
		for _, n := range []int{1, 2, 127, 128, 129, 200, 254, 255, 256, 257, 258, 259, 511, 512, 513, 1000, 1 << 16, 1<<16 + 1} {
			s := "/" + strings.Repeat(fill, n)[:n-1]
			if may := Right(s); may != (n <= most) {
				t.Errorf("Right of %d bytes of %q: %v", n, fill, may)
			}
			follows(t, s)
		}
	}
}

// P22.1: no byte is 0: at the front, amid and at the end, at each place of short and long paths.
func TestRightAsksForNoZero(t *testing.T) {
	for _, s := range []string{"/", "/a", "/a/b/", strings.Repeat("/ab", 30), strings.Repeat("/", most-1), "/" + strings.Repeat("a", most-2)} {
		if !Right(s) {
			t.Fatalf("Right(%q)", s)
		}
		for i := range len(s) + 1 {
			refuses(t, s[:i]+"\x00"+s[i:])
		}
	}
	refuses(t, "\x00")
	refuses(t, "/\x00\x00")
}

// P22.1: each other byte may stand in a path, alone or many times: 1, 127, 128, 255, and such as are no UTF-8.
func TestRightOfEachByte(t *testing.T) {
	for b := 1; b < 256; b++ {
		one := string([]byte{byte(b)})
		for _, s := range []string{"/" + one, "/a" + one, "/" + one + "a", "/a" + one + "b/" + one, "/" + strings.Repeat(one, most-1)} {
			if !Right(s) {
				t.Errorf("Right(%q)", s)
			}
			follows(t, s)
		}
		if one != "/" && one != "." {
			hands(t, "/"+one+"/a"+one+"b//"+one+one, one, "a"+one+"b", one+one)
			cleans(t, "/"+one+"/./a"+one+"/", "/"+one+"/a"+one)
		}
	}
	for _, name := range []string{"\xc3", "\xc3\xa4", "\xa4\xc3", "\xed\xa0\x80", "\xf4\x90\x80\x80", "\xff\xfe", "\xc0\xaf", "\xef\xbf\xbd", "\xe2\x81\x84"} {
		if !Right("/" + name) {
			t.Errorf("Right(%q)", "/"+name)
		}
		hands(t, "/"+name+"/"+name+"a", name, name+"a")
		cleans(t, "/a/../"+name, "/"+name)
	}
}

// P22.1: nothing of /, and of paths with nothing but empty names and .
func TestNamesOfNone(t *testing.T) {
	for _, s := range []string{"/", "//", "///", "/.", "/./", "//.", "/.//", "/./.", "/././", strings.Repeat("/", most), strings.Repeat("/.", most/2)} {
		hands(t, s)
	}
}

// P22.1: empty names and . are left out, ahead, amid and behind; others are handed out as they are, in order.
func TestNamesLeaveOut(t *testing.T) {
	hands(t, "/a", "a")
	hands(t, "/a/", "a")
	hands(t, "/etc", "etc")
	hands(t, "/a/b", "a", "b")
	hands(t, "/b/a", "b", "a")
	hands(t, "/a/b/c/d/e", "a", "b", "c", "d", "e")
	hands(t, "/a/b/c/d/e/", "a", "b", "c", "d", "e")
	hands(t, "/a/a/a", "a", "a", "a")
	hands(t, "//a/b", "a", "b")
	hands(t, "/a//b", "a", "b")
	hands(t, "/a/b//", "a", "b")
	hands(t, "/./a/b", "a", "b")
	hands(t, "/a/./b", "a", "b")
	hands(t, "/a/b/.", "a", "b")
	hands(t, "/a/b/./", "a", "b")
	hands(t, "//./a/.//./b/././/", "a", "b")
	hands(t, "/..", "..")
	hands(t, "/../", "..")
	hands(t, "/../..", "..", "..")
	hands(t, "/a/../b", "a", "..", "b")
	hands(t, "/.../.a/a./..a/a../.../", "...", ".a", "a.", "..a", "a..", "...")
	hands(t, "/ / /. / .", " ", " ", ". ", " .")
	hands(t, "/a b/\\/*", "a b", "\\", "*")
}

// P22.1: paths of 256 bytes: one name, the most names, and one at the end alone.
func TestNamesOfLongPaths(t *testing.T) {
	hands(t, "/"+strings.Repeat("a", most-1), strings.Repeat("a", most-1))
	hands(t, "/"+strings.Repeat("a", most-2)+"/", strings.Repeat("a", most-2))
	hands(t, strings.Repeat("/a", most/2), slices.Repeat([]string{"a"}, most/2)...)
	hands(t, strings.Repeat("a/", most/2))
	hands(t, strings.Repeat("/..", 85)+"/", slices.Repeat([]string{".."}, 85)...)
	hands(t, strings.Repeat("/", most-1)+"a", "a")
	hands(t, strings.Repeat("/.", 127)+"/a", "a")
	hands(t, "/a"+strings.Repeat("/", most-2), "a")
}

// P22.1 to P22.3: of paths that may not be: no name, ErrArg, within nothing, and nothing within them.
func TestPathsThatMayNotBe(t *testing.T) {
	for _, s := range wrongPaths() {
		refuses(t, s)
		for _, other := range wrongPaths() {
			stands(t, false, s, other)
		}
		for _, other := range rightPaths() {
			stands(t, false, s, other)
			stands(t, false, other, s)
		}
	}
}

// P22.1: behind the name at which it is told to stop, nothing is handed out: at the first, amid, at the last.
func TestNamesStopWhenTold(t *testing.T) {
	for _, s := range rightPaths() {
		whole := slowNames(s)
		for n := 1; n <= len(whole); n++ {
			if l := first(n, Names(s)); !slices.Equal(l, whole[:n]) {
				t.Errorf("Names(%.300q), stopped at %d: %.300q", s, n, l)
			}
			calls := 0
			Names(s)(func(name string) bool {
				if calls++; calls > n || whole[calls-1] != name {
					t.Errorf("Names(%.300q), stopped at %d: %q", s, n, name)
				}
				return calls < n
			})
			if calls != n {
				t.Errorf("Names(%.300q), stopped at %d: called %d times", s, n, calls)
			}
		}
	}
	for _, s := range wrongPaths() {
		Names(s)(func(name string) bool {
			t.Errorf("Names(%.300q): %q", s, name)
			return false
		})
	}
}

// P22.1, P22.4: names may be handed out twice, by one and the same function as well, wherever it was told to stop ahead.
func TestNamesTwice(t *testing.T) {
	for _, s := range rightPaths() {
		whole := slowNames(s)
		names := Names(s)
		for n := range min(len(whole), 5) + 1 {
			first(n, names)
			for range 2 {
				if l := all(names); !slices.Equal(l, whole) {
					t.Errorf("Names(%.300q) again, stopped at %d ahead: %.300q", s, n, l)
				}
			}
		}
		hands(t, s, whole...)
	}
}

// P22.1, P22.4: names may be handed out while they are being handed out, by one function or by two.
func TestNamesWithinNames(t *testing.T) {
	for _, s := range rightPaths() {
		whole := slowNames(s)
		names := Names(s)
		var outer []string
		for name := range names {
			outer = append(outer, name)
			if l := all(names); !slices.Equal(l, whole) {
				t.Errorf("Names(%.300q) within itself: %.300q", s, l)
			}
			if l := first(1, names); l[0] != whole[0] {
				t.Errorf("Names(%.300q), stopped within itself: %q", s, l)
			}
			hands(t, s, whole...)
			hands(t, "/x/./y//z", "x", "y", "z")
		}
		if !slices.Equal(outer, whole) {
			t.Errorf("Names(%.300q) about itself: %.300q", s, outer)
		}
	}
	count := 0
outer:
	for a := range Names("/a/b/c") {
		for b := range Names("/c//d/e") {
			if count++; a == "b" && b == "d" {
				break outer
			}
			if b == "e" {
				continue outer
			}
		}
	}
	if count != 3+2 {
		t.Error(count)
	}
}

// P22.1: Join of an empty list is /; else each with a / ahead, whatever it is: empty, . or .., or with a / in it.
func TestJoin(t *testing.T) {
	joins(t, "/")
	joins(t, "/", []string{}...)
	if s := Join(nil); s != "/" {
		t.Error(s)
	}
	joins(t, "/a", "a")
	joins(t, "/etc/x", "etc", "x")
	joins(t, "/x/etc", "x", "etc")
	joins(t, "/a/b/c/d", "a", "b", "c", "d")
	joins(t, "/a/a", "a", "a")
	joins(t, "/", "")
	joins(t, "//", "", "")
	joins(t, "//a", "", "a")
	joins(t, "/a/", "a", "")
	joins(t, "/a//b", "a", "", "b")
	joins(t, "/.", ".")
	joins(t, "/..", "..")
	joins(t, "/a/../.", "a", "..", ".")
	joins(t, "//", "/")
	joins(t, "//a", "/a")
	joins(t, "/a/b/c", "a/b", "c")
	joins(t, "/a//b", "a/", "b")
	joins(t, "///a///", "/", "a/", "/")
	joins(t, "/\x00/\xff/é", "\x00", "\xff", "é")
}

// P22.1: Join has no greatest length, as a path has: it is asked by nobody whether what it tells may be.
func TestJoinOfMany(t *testing.T) {
	for _, n := range []int{1, 127, 128, 129, 1000, 1 << 16} {
		joins(t, strings.Repeat("/a", n), slices.Repeat([]string{"a"}, n)...)
		joins(t, strings.Repeat("/", n), slices.Repeat([]string{""}, n)...)
	}
	long := strings.Repeat("b", 1<<16)
	joins(t, "/"+long, long)
	joins(t, "/"+long+"/a/"+long, long, "a", long)
}

// P22.1: Join of all short lists of names of each kind.
func TestJoinFollowsTheWords(t *testing.T) {
	names := []string{"", ".", "..", "/", "a", "b/c", "\x00"}
	lists := [][]string{nil}
	for from, deep := 0, 0; deep < 4; deep++ {
		till := len(lists)
		for _, l := range lists[from:till] {
			for _, name := range names {
				lists = append(lists, append(slices.Clone(l), name))
			}
		}
		from = till
	}
	for _, l := range lists {
		joins(t, slowJoin(l), l...)
	}
}

// P22.1: the names of a join are what was joined, if these may be names and the whole may be.
func TestNamesOfJoin(t *testing.T) {
	r := rand.New(rand.NewSource(1))
	for range 20000 {
		var l []string
		for range r.Intn(12) {
			name := []string{"..", "...", ".a", "a.", "a", "b", "é", "\xff", strings.Repeat("c", 1+r.Intn(20))}[r.Intn(9)]
			l = append(l, name)
		}
		hands(t, Join(l), l...)
	}
}

// P22.2: what is clean already stays so.
func TestCleanOfClean(t *testing.T) {
	for _, s := range []string{
		"/", "/a", "/a/b", "/etc/x", "/a/b/c/d/e/f", "/...", "/.a", "/a.", "/..a", "/a..", "/a/..b/...", "/ ", "/\xff", "/é/\x01", "/a/a/a",
		"/" + strings.Repeat("a", most-1), strings.Repeat("/a", most/2), "/a/" + strings.Repeat("b", most-3),
	} {
		cleans(t, s, s)
		if !isClean(s) {
			t.Errorf("%q", s)
		}
	}
}

// P22.2: empty names and . do not matter, ahead, amid and behind, nor a / at the end.
func TestCleanOfNoNames(t *testing.T) {
	for _, s := range []string{"//", "///", "/.", "/./", "//.", "/.//.", strings.Repeat("/", most), strings.Repeat("/.", most/2)} {
		cleans(t, s, "/")
	}
	for _, s := range []string{"/a/", "//a", "/a//", "/./a", "/a/.", "/a/./", "//.//a//.//"} {
		cleans(t, s, "/a")
	}
	for _, s := range []string{"/a/b/", "/a//b", "/a/./b", "//a/.//b/./", "/a///////b"} {
		cleans(t, s, "/a/b")
	}
}

// P22.2: .. takes away the last name that is left, if there is one: at the front, amid, at the end, and several of them.
func TestCleanOfUps(t *testing.T) {
	for _, s := range []string{
		"/..", "/../", "/../..", "/./..", "//..//..//", "/a/..", "/a/../", "/a/../..", "/../a/..", "/a/b/../..", "/a/../b/..", "/a/b/../../..",
		"/a/b/c/../../../../../", strings.Repeat("/..", 85), strings.Repeat("/a", 51) + strings.Repeat("/..", 51), strings.Repeat("/a/..", 51),
	} {
		cleans(t, s, "/")
	}
	cleans(t, "/../a", "/a")
	cleans(t, "/../../a", "/a")
	cleans(t, "/a/../b", "/b")
	cleans(t, "/a/../../b", "/b")
	cleans(t, "/a/b/../c", "/a/c")
	cleans(t, "/a/b/../../c", "/c")
	cleans(t, "/a/b/../../../c/d", "/c/d")
	cleans(t, "/a/b/..", "/a")
	cleans(t, "/a/b/../", "/a")
	cleans(t, "/a/b/c/../..", "/a")
	cleans(t, "/a/b/c/../d/../e", "/a/b/e")
	cleans(t, "/a/b/./..", "/a")
	cleans(t, "/a/b//..", "/a")
	cleans(t, "/a/b/../.", "/a")
	cleans(t, "/a/.../..", "/a")
	cleans(t, "/a/.../.", "/a/...")
	cleans(t, "/..a/../a..", "/a..")
	cleans(t, "/a/..b", "/a/..b")
	cleans(t, "/.. /..", "/")
	cleans(t, "/ ../a", "/ ../a")
}

// P22.2: paths of 256 bytes, and the longest row of names.
func TestCleanOfLongPaths(t *testing.T) {
	cleans(t, strings.Repeat("/a", most/2), strings.Repeat("/a", most/2))
	cleans(t, strings.Repeat("/a", most/2-1)+"//", strings.Repeat("/a", most/2-1))
	cleans(t, "/"+strings.Repeat("a", most-2)+"/", "/"+strings.Repeat("a", most-2))
	cleans(t, strings.Repeat("/", most-1)+"a", "/a")
	cleans(t, strings.Repeat("/..", 84)+"/a/b", "/a/b")
	cleans(t, strings.Repeat("/..", 85)+"/", "/")
	cleans(t, strings.Repeat("/a", 126)+"/../", strings.Repeat("/a", 125))
	cleans(t, strings.Repeat("/a", 51)+strings.Repeat("/..", 50)+"/bcd", "/a/bcd")
	cleans(t, "/"+strings.Repeat("a", 249)+"/../bc", "/bc")
}

// P22.3: Up is Clean without the last name; / of / and of paths of one name, and of those that Clean brings to these.
func TestUp(t *testing.T) {
	for _, s := range []string{
		"/", "//", "/.", "/..", "/../..", "/a", "/a/", "//a", "/a/.", "/etc", "/...", "/a/..", "/a/../..", "/a/b/..", "/a/b/../..", "/../a",
		"/a/../b", "/a/../b/", strings.Repeat("/..", 85), "/" + strings.Repeat("a", most-1), strings.Repeat("/", most),
	} {
		leadsUp(t, s, "/")
	}
	leadsUp(t, "/a/b/", "/a")
	leadsUp(t, "/a//b", "/a")
	leadsUp(t, "/a/b/.", "/a")
	leadsUp(t, "/a/./b", "/a")
	leadsUp(t, "/a/b/c", "/a/b")
	leadsUp(t, "/a/b/c/..", "/a")
	leadsUp(t, "/a/b/../c", "/a")
	leadsUp(t, "/../a/b", "/a")
	leadsUp(t, "/a/..b", "/a")
	leadsUp(t, "/a/...", "/a")
	leadsUp(t, "/a/.../.", "/a")
	leadsUp(t, "/a/a", "/a")
	leadsUp(t, "/etc/x/y/z", "/etc/x/y")
	leadsUp(t, strings.Repeat("/a", most/2), strings.Repeat("/a", most/2-1))
	leadsUp(t, "/a/"+strings.Repeat("b", most-3), "/a")
	leadsUp(t, "/"+strings.Repeat("b", most-3)+"/a", "/"+strings.Repeat("b", most-3))
}

// P22.3: Within asks names, not texts: of a path in itself, in /, in its Up, in what it only begins with, and in a longer one.
func TestWithin(t *testing.T) {
	for _, s := range rightPaths() {
		stands(t, true, s, s)
		stands(t, true, s, "/")
		stands(t, true, s, mustUp(t, s))
		stands(t, true, s, mustClean(t, s))
		stands(t, true, mustClean(t, s), s)
		clean := mustClean(t, s)
		stands(t, clean == "/", "/", s)
		stands(t, clean == "/", mustUp(t, s), s)
	}
	stands(t, true, "/a/b/c", "/a")
	stands(t, true, "/a/b/c", "/a/b")
	stands(t, false, "/a/b/c", "/b")
	stands(t, false, "/a/b/c", "/c")
	stands(t, false, "/a/b/c", "/b/c")
	stands(t, false, "/a/b/c", "/a/c")
	stands(t, false, "/ab", "/a")
	stands(t, false, "/a", "/ab")
	stands(t, false, "/ab/c", "/a")
	stands(t, false, "/a/bc", "/a/b")
	stands(t, false, "/a/b", "/a/bc")
	stands(t, false, "/a", "/a/b")
	stands(t, false, "/a/b", "/a/b/c")
	stands(t, false, "/", "/a")
	stands(t, false, "/b", "/a")
	stands(t, false, "/a/b", "/b/a")
	stands(t, false, "/A", "/a")
	stands(t, true, "/etc/x", "/etc")
	stands(t, false, "/etc.x", "/etc")
	stands(t, true, "/.../a", "/...")
	stands(t, false, "/.../a", "/.a")
	stands(t, true, strings.Repeat("/a", most/2), strings.Repeat("/a", most/2-1))
	stands(t, false, strings.Repeat("/a", most/2-1), strings.Repeat("/a", most/2))
}

// P22.3: paths that are not clean, on either side: what stands within is asked of what they are cleaned to.
func TestWithinOfPathsThatAreNotClean(t *testing.T) {
	stands(t, true, "/a//b/", "/a")
	stands(t, true, "/a/b", "//a/./")
	stands(t, true, "/a/./b", "/./a")
	stands(t, false, "/a/../b", "/a")
	stands(t, true, "/a/../b", "/b")
	stands(t, true, "/a/b", "/b/../a")
	stands(t, false, "/a/b", "/a/..b")
	stands(t, true, "/a/b", "/a/..")
	stands(t, true, "/a/..", "/..")
	stands(t, false, "/a/..", "/a")
	stands(t, false, "/a/b/../..", "/a")
	stands(t, true, "/a/b/..", "/a")
	stands(t, true, "/a/b/../c", "/a/d/..")
	stands(t, false, "/a/b/../c", "/a/b")
	stands(t, true, "/../a", "/a")
	stands(t, true, "/a", "/../../a")
	stands(t, false, "/a/b/", "/a/b/c/")
	stands(t, true, "/", "/a/..")
	stands(t, true, "/..", "/")
	stands(t, true, "/.a", "/.")
	stands(t, true, strings.Repeat("/..", 84)+"/a/b", "/b/../a/./")
}

// P22.1 to P22.3: of all short texts of /, . and a letter, and of a few other bytes.
func TestShortTextsFollowTheWords(t *testing.T) {
	for _, s := range short("/.a", 9) {
		follows(t, s)
	}
	for _, s := range short("/.ab\x00\xff", 5) {
		follows(t, s)
	}
}

// P22.3: each two of all short texts, and of those that begin with each other's names.
func TestShortPairsFollowTheWords(t *testing.T) {
	texts := slices.Concat(short("/.a", 5), rightPaths(), wrongPaths())
	for _, s := range short("/ab", 5) {
		if strings.HasPrefix(s, "/") {
			texts = append(texts, s)
		}
	}
	for _, s := range texts {
		for _, dir := range texts {
			if is := Within(s, dir); is != slowWithin(s, dir) {
				t.Errorf("Within(%.300q, %.300q): %v", s, dir, is)
			}
		}
	}
}

// P22.1 to P22.3: scattered texts of up to some more bytes than a path may have.
func TestScatteredFollowTheWords(t *testing.T) {
	r := rand.New(rand.NewSource(2))
	for range 30000 {
		s, dir := scattered(r, r.Intn(300)), scattered(r, r.Intn(20))
		follows(t, s)
		follows(t, dir)
		for _, pair := range [][2]string{{s, dir}, {dir, s}, {s, s[:r.Intn(len(s)+1)]}, {dir + s, dir}, {dir + "/" + s, dir}} {
			if is := Within(pair[0], pair[1]); is != slowWithin(pair[0], pair[1]) {
				t.Errorf("Within(%q, %q): %v", pair[0], pair[1], is)
			}
		}
	}
}

// theorem asks its sentences of one path.
func theorem(t *testing.T, s string) {
	t.Helper()
	clean, wrong := Clean(s)
	if wrong != 0 {
		refuses(t, s)
		return
	}
	if !isClean(clean) || len(clean) > len(s) && clean != "/" {
		t.Errorf("Clean(%.300q): %.300q", s, clean)
	}
	cleans(t, clean, clean)
	joins(t, clean, all(Names(clean))...)
	if isClean(s) != (clean == s) {
		t.Errorf("Clean(%.300q): %.300q", s, clean)
	}
	names := Names(s)
	if one, two := all(names), all(names); !slices.Equal(one, two) {
		t.Errorf("Names(%.300q): %.300q and %.300q", s, one, two)
	}
	withinAllAbove(t, s)
	withNameBehind(t, s)
}

// withinAllAbove asks the theorem's last sentence: what stands within a path's Up stands within all above it, up to /.
func withinAllAbove(t *testing.T, s string) {
	t.Helper()
	inside := []string{s, mustClean(t, s), mustUp(t, s), Join(append(all(Names(mustUp(t, s))), "z")), mustUp(t, s) + "/."}
	dir := mustUp(t, s)
	for range most {
		for _, one := range inside {
			if Right(one) && !Within(one, dir) {
				t.Errorf("%.300q stands within Up(%.300q), but not within %.300q", one, s, dir)
			}
		}
		if dir == "/" {
			return
		}
		dir = mustUp(t, dir)
	}
	t.Errorf("above %.300q there is no /", s)
}

// withNameBehind asks a path with a name more, wherever it is that long still.
func withNameBehind(t *testing.T, s string) {
	t.Helper()
	for _, name := range []string{"a", "z", "...", ".a", "a.", "\xff"} {
		longer := s + "/" + name
		if !Right(longer) {
			continue
		}
		stands(t, true, longer, s)
		leadsUp(t, longer, mustClean(t, s))
		stands(t, false, s, longer)
	}
}

// P22.4: of all short texts of /, . and a letter.
func TestTheoremOfShortTexts(t *testing.T) {
	for _, s := range short("/.a", 8) {
		theorem(t, s)
	}
}

// P22.4: of paths of each kind, of such as may not be, and of scattered ones.
func TestTheoremOfOthers(t *testing.T) {
	for _, s := range slices.Concat(rightPaths(), wrongPaths()) {
		theorem(t, s)
	}
	r := rand.New(rand.NewSource(3))
	for range 10000 {
		theorem(t, scattered(r, r.Intn(270)))
	}
}

// P22.4: what stands within a path's Up stands within all above it, whatever it is: each two of all short texts.
func TestTheoremOfPairs(t *testing.T) {
	texts := slices.DeleteFunc(short("/.a", 6), func(s string) bool { return !strings.HasPrefix(s, "/") })
	for _, s := range texts {
		up := mustUp(t, s)
		further := mustUp(t, up)
		for _, one := range texts {
			if Within(one, up) && !(Within(one, further) && Within(one, "/")) {
				t.Errorf("%q stands within %q, but not within %q", one, up, further)
			}
		}
	}
}

// R2: nil and empty are the same.
func TestNilAndEmpty(t *testing.T) {
	if Join(nil) != Join([]string{}) || Join(nil) != "/" {
		t.Error("Join")
	}
}

// R3: what is handed in stays as it is, its room behind its end too.
func TestJoinChangesNothing(t *testing.T) {
	room := []string{"a", "b", "c", "d"}
	for n := range len(room) + 1 {
		Join(room[:n])
		if !slices.Equal(room, []string{"a", "b", "c", "d"}) {
			t.Fatal(n, room)
		}
	}
	whole := Join(room)
	room[0] = "x"
	if whole != "/a/b/c/d" {
		t.Error(whole)
	}
}

// R3: what is told shares nothing with what was handed in: the bytes of a path become others, and its names stay.
func TestNothingIsShared(t *testing.T) {
	b := []byte("/etc/x")
	s := unsafe.String(&b[0], len(b))
	names := all(Names(s))
	clean := mustClean(t, s)
	up := mustUp(t, s)
	l := []string{unsafe.String(&b[1], 3)}
	joined := Join(l)
	alone := Join(names[:1])
	for i := range b {
		b[i] = '#'
	}
	if !slices.Equal(names, []string{"etc", "x"}) || clean != "/etc/x" || up != "/etc" || joined != "/etc" || alone != "/etc" {
		t.Error(names, clean, up, joined, alone)
	}
}

// R4: the same arguments, the same answers, whatever was asked between.
func TestTheSameAgain(t *testing.T) {
	r := rand.New(rand.NewSource(4))
	texts := slices.Concat(rightPaths(), wrongPaths(), short("/.a", 4))
	for range 3 {
		r.Shuffle(len(texts), func(i, j int) { texts[i], texts[j] = texts[j], texts[i] })
		for i, s := range texts {
			follows(t, s)
			other := texts[len(texts)-1-i]
			stands(t, slowWithin(s, other), s, other)
		}
	}
}

// P0: calls of long texts and of all bytes end, and tell what may not be.
func TestAllCallsEnd(t *testing.T) {
	for _, piece := range []string{"/", "/.", "/..", "/a", "/a/..", "a", "\x00", "\xff"} {
		for _, n := range []int{257, 1 << 10, 1 << 20} {
			refuses(t, strings.Repeat(piece, n))
		}
	}
	r := rand.New(rand.NewSource(5))
	for range 5000 {
		b := make([]byte, r.Intn(400))
		r.Read(b)
		follows(t, string(b))
		follows(t, "/"+string(b))
		stands(t, slowWithin("/"+string(b), "/"), "/"+string(b), "/")
	}
}
