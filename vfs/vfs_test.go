package vfs

import (
	"fmt"
	"math"
	"math/rand"
	"slices"
	"strconv"
	"strings"
	"testing"
	"unsafe"

	"fairlead/api"
	"fairlead/path"
)

// The document's numbers, written out.
const (
	errArg   = 1
	errLong  = 4
	errTwice = 9
	errNone  = 17
	errHops  = 19
	errDir   = 20

	kindFile = 1
	kindDir  = 2
	kindLink = 3

	mostNodes = 64
	mostBytes = 256
	mostHops  = 8
)

func dir(p string) api.Node { return api.Node{Path: p, Kind: kindDir} }

func file(p string) api.Node { return api.Node{Path: p, Kind: kindFile} }

func link(p, target string) api.Node { return api.Node{Path: p, Kind: kindLink, Target: target} }

// with is a list with nodes behind, in room of its own.
func with(l []api.Node, more ...api.Node) []api.Node { return slices.Concat(l, more) }

// slowMay follows the words of chapter 22: it begins with /, has at most 256 bytes, and none of them is 0.
func slowMay(s string) bool {
	return len(s) >= 1 && s[0] == '/' && len(s) <= mostBytes && strings.Count(s, "\x00") == 0
}

// slowClean follows the words of chapter 22: it is /, or there is nothing in it that does not matter.
func slowClean(s string) bool {
	if s == "/" {
		return true
	}
	whole := s + "/"
	return slowMay(s) && !strings.Contains(whole, "//") && !strings.Contains(whole, "/./") && !strings.Contains(whole, "/../")
}

// slowUp is what stands ahead of a clean path's last /.
func slowUp(s string) string {
	if i := strings.LastIndex(s, "/"); i > 0 {
		return s[:i]
	}
	return "/"
}

// slowWrong tells what is wrong with a node by itself.
func slowWrong(node api.Node) bool {
	wrong := !slowClean(node.Path) || node.Path == "/"
	wrong = wrong || node.Kind < kindFile || node.Kind > kindLink
	if node.Kind == kindLink {
		return wrong || len(node.Target) < 1 || len(node.Target) > mostBytes || strings.Contains(node.Target, "\x00")
	}
	return wrong || len(node.Target) > 0
}

// slowCheck asks of each node, from the last one on, the errors from the last one on: what is told stays the first one's.
func slowCheck(l []api.Node) (api.Errno, int) {
	if len(l) > mostNodes {
		return errLong, mostNodes
	}
	wrong, at := api.Errno(0), -1
	for i, node := range slices.Backward(l) {
		up := slices.IndexFunc(l[:i], func(n api.Node) bool { return n.Path == slowUp(node.Path) })
		if slowUp(node.Path) != "/" && up >= 0 && l[up].Kind != kindDir {
			wrong, at = errDir, i
		}
		if slowUp(node.Path) != "/" && up < 0 {
			wrong, at = errNone, i
		}
		if slices.ContainsFunc(l[:i], func(n api.Node) bool { return n.Path == node.Path }) {
			wrong, at = errTwice, i
		}
		if slowWrong(node) {
			wrong, at = errArg, i
		}
	}
	return wrong, at
}

// slowFind goes from the last node on, so that the first one stays.
func slowFind(l []api.Node, p string) (api.Node, bool) {
	found, is := api.Node{}, false
	for _, node := range slices.Backward(l) {
		if node.Path == p {
			found, is = node, true
		}
	}
	if p == "/" {
		return dir("/"), true
	}
	return found, is
}

// end is where a path led, and how many links were followed.
type end struct {
	path     string
	kind     int
	wrong    api.Errno
	followed int
}

// slowResolve follows the words.
func slowResolve(l []api.Node, p string) end {
	if wrong, _ := slowCheck(l); wrong != 0 {
		return end{wrong: wrong}
	}
	if !slowMay(p) {
		return end{wrong: errArg}
	}
	return slowLead(l, "/", p, 0)
}

// slowLead leads a text, of which parts are cut off, from a place on: a link's Target becomes the beginning of that text.
func slowLead(l []api.Node, at, text string, followed int) end {
	stands, _ := slowFind(l, at)
	part, rest, more := strings.Cut(text, "/")
	switch {
	case part == "" || part == ".":
		if !more {
			return end{at, stands.Kind, 0, followed}
		}
		return slowLead(l, at, rest, followed)
	case stands.Kind == kindFile:
		return end{wrong: errDir, followed: followed}
	case part == "..":
		return slowLead(l, slowUp(at), rest, followed)
	}
	under := "/" + part
	if at != "/" {
		under = at + under
	}
	node, there := slowFind(l, under)
	switch {
	case !there:
		return end{wrong: errNone, followed: followed}
	case node.Kind != kindLink:
		return slowLead(l, under, rest, followed)
	case followed == mostHops:
		return end{wrong: errHops, followed: followed}
	case node.Target[0] == '/':
		at = "/"
	}
	return slowLead(l, at, node.Target+"/"+rest, followed+1)
}

// shown are nodes as a text, of which a long one is cut off.
func shown(l ...api.Node) string {
	whole := fmt.Sprintf("%+v", l[:min(len(l), 20)])
	return whole[:min(len(whole), 1000)]
}

func checks(t *testing.T, l []api.Node, wrong api.Errno, at int) {
	t.Helper()
	if e, n := Check(l); e != wrong || n != at {
		t.Errorf("Check(%s): %d, %d, not %d, %d", shown(l...), e, n, wrong, at)
	}
}

func holds(t *testing.T, l []api.Node) {
	t.Helper()
	checks(t, l, 0, -1)
}

func finds(t *testing.T, l []api.Node, p string, want api.Node) {
	t.Helper()
	if node, is := Find(l, p); node != want || !is {
		t.Errorf("Find(%s, %.300q): %s, %v, not %s", shown(l...), p, shown(node), is, shown(want))
	}
}

func findsNone(t *testing.T, l []api.Node, p string) {
	t.Helper()
	if node, is := Find(l, p); node != (api.Node{}) || is {
		t.Errorf("Find(%s, %.300q): %s, %v", shown(l...), p, shown(node), is)
	}
}

func leads(t *testing.T, l []api.Node, p, want string, kind int) {
	t.Helper()
	if s, k, wrong := Resolve(l, p); s != want || k != kind || wrong != 0 {
		t.Errorf("Resolve(%s, %.300q): %.300q, %d, %d, not %.300q, %d", shown(l...), p, s, k, wrong, want, kind)
	}
}

// leadsNowhere fails if anything but an error is told, beside which there is an empty path and 0.
func leadsNowhere(t *testing.T, l []api.Node, p string, want api.Errno) {
	t.Helper()
	if s, k, wrong := Resolve(l, p); s != "" || k != 0 || wrong != want {
		t.Errorf("Resolve(%s, %.300q): %.300q, %d, %d, not %d", shown(l...), p, s, k, wrong, want)
	}
}

// follows fails if a call tells something else than the document's words do, or changes the list.
func follows(t *testing.T, l []api.Node, p string) {
	t.Helper()
	was := slices.Clone(l)
	want := slowResolve(l, p)
	if s, k, wrong := Resolve(l, p); s != want.path || k != want.kind || wrong != want.wrong {
		t.Errorf("Resolve(%s, %.300q): %.300q, %d, %d, not %v", shown(l...), p, s, k, wrong, want)
	}
	wrong, at := slowCheck(l)
	checks(t, l, wrong, at)
	node, is := slowFind(l, p)
	if n, there := Find(l, p); n != node || there != is {
		t.Errorf("Find(%s, %.300q): %s, %v, not %s, %v", shown(l...), p, shown(n), there, shown(node), is)
	}
	if !slices.Equal(l, was) {
		t.Fatalf("%s became %s", shown(was...), shown(l...))
	}
}

// row are so many directories beside each other.
func row(n int) []api.Node {
	var l []api.Node
	for i := range n {
		l = append(l, dir("/d"+strconv.Itoa(i)))
	}
	return l
}

// deep are so many directories in one another, each with a name of three bytes: 64 of them have a path of 256 bytes.
func deep(n int) []api.Node {
	var l []api.Node
	for i := range n {
		l = append(l, dir(strings.Repeat("/abc", i+1)))
	}
	return l
}

// chain are so many links in a row, of which the last one's Target is given: /l1 leads on to /l2.
func chain(n int, last string) []api.Node {
	var l []api.Node
	for i := 1; i < n; i++ {
		l = append(l, link("/l"+strconv.Itoa(i), "l"+strconv.Itoa(i+1)))
	}
	return append(l, link("/l"+strconv.Itoa(n), last))
}

// wrongPaths are such as may not be.
func wrongPaths() []string {
	return []string{
		"", "a", "a/b", ".", "..", "./a", "../a", "l", "f", " /a", "\x00", "/\x00", "/a\x00", "/a\x00/b", "\x00/a", "/a/\x00", "/..\x00",
		"/" + strings.Repeat("a", mostBytes), strings.Repeat("/", mostBytes+1), strings.Repeat("/a", mostBytes/2) + "/",
		strings.Repeat("/..", 86), strings.Repeat("a", mostBytes), "/" + strings.Repeat("a", 1<<16),
	}
}

// uncleanPaths are such as may be, but are not clean.
func uncleanPaths() []string {
	return []string{
		"//", "///", "/.", "/..", "/./", "/../", "/a/", "//a", "/a//", "/a//b", "/./a", "/a/.", "/a/./b", "/a/..", "/../a", "/a/../b",
		"/a/b/", "/a/b/.", "/a/b/..", "/a/b//c", "//a/b", "/" + strings.Repeat("a", mostBytes-2) + "/", strings.Repeat("/", mostBytes),
		strings.Repeat("/", mostBytes-1) + "a",
	}
}

// The numbers that api gives the errors, the kinds and the limits.
func TestNumbersAreNamed(t *testing.T) {
	if api.OK != 0 || api.ErrArg != errArg || api.ErrLong != errLong || api.ErrTwice != errTwice {
		t.Error("errors")
	}
	if api.ErrNone != errNone || api.ErrHops != errHops || api.ErrDir != errDir {
		t.Error("errors")
	}
	if api.File != kindFile || api.Dir != kindDir || api.Link != kindLink || api.MaxPath != mostBytes || api.MaxHops != mostHops {
		t.Error("kinds and limits")
	}
}

// P23.1 to P23.3: the chapter's examples.
func TestExamples(t *testing.T) {
	l := []api.Node{dir("/a"), file("/a/f"), link("/l", "a"), link("/o", "/o")}
	holds(t, l)
	leads(t, l, "/l/f", "/a/f", kindFile)
	leadsNowhere(t, l, "/l/f/..", errDir)
	leadsNowhere(t, l, "/x", errNone)
	leadsNowhere(t, l, "/o", errHops)
}

// P23.3: the example 10 of the whole: a path /l/x, where /l is a link to /etc, leads to /etc/x, which stands within /etc;
// as it is written it does not. And what the broker's examples say of a tree of /etc, /etc/a and /f.
func TestExamplesOfTheWhole(t *testing.T) {
	for _, target := range []string{"/etc", "etc", "/etc/", "./etc", "../etc"} {
		l := []api.Node{dir("/etc"), file("/etc/x"), link("/l", target)}
		leads(t, l, "/l/x", "/etc/x", kindFile)
		if s, _, _ := Resolve(l, "/l/x"); !path.Within(s, "/etc") || path.Within("/l/x", "/etc") {
			t.Error(s)
		}
	}
	l := []api.Node{dir("/etc"), file("/etc/a"), file("/f")}
	leads(t, l, "/f", "/f", kindFile)
	leads(t, l, "/etc/a", "/etc/a", kindFile)
	leadsNowhere(t, l, "/x", errNone)
}

// P23.1: a tree may be empty, and have up to 64 nodes.
func TestCheckOfHowMany(t *testing.T) {
	holds(t, nil)
	holds(t, []api.Node{})
	for _, n := range []int{1, 2, 3, 31, 32, 33, 62, 63, 64} {
		holds(t, row(n))
		holds(t, deep(n))
	}
	for _, n := range []int{65, 66, 127, 128, 129, 1000, 1 << 16} {
		checks(t, row(n), errLong, mostNodes)
	}
}

// P23.1: of more than 64 nodes ErrLong and 64 are told, whatever else is wrong with them, and wherever.
func TestCheckOfTooManyThatAreWrong(t *testing.T) {
	checks(t, make([]api.Node, 65), errLong, mostNodes)
	checks(t, make([]api.Node, 1<<16), errLong, mostNodes)
	checks(t, slices.Repeat([]api.Node{dir("/a")}, 65), errLong, mostNodes)
	wrong := []api.Node{{}, dir("/"), dir("/d0"), dir("/d1"), dir("/x/y"), file("a"), link("/l", ""), {Path: "/k", Kind: 4}}
	for _, node := range wrong {
		for at := range 65 {
			l := row(65)
			l[at] = node
			checks(t, l, errLong, mostNodes)
		}
		// With one node less than that, it is the node that is wrong.
		l := row(64)
		l[63] = node
		e, _ := slowCheck(l)
		if e == 0 {
			t.Fatal(shown(node))
		}
		checks(t, l, e, 63)
	}
	checks(t, make([]api.Node, 64), errArg, 0)
}

// P23.1: each Path that is not clean, may not be, or is / alone: ErrArg, of each Kind, and wherever it stands.
func TestCheckOfPathsThatAreNotClean(t *testing.T) {
	ahead := []api.Node{dir("/a"), dir("/a/b"), file("/c"), link("/l", "a")}
	holds(t, ahead)
	for _, p := range slices.Concat(wrongPaths(), uncleanPaths(), []string{"/"}) {
		for _, node := range []api.Node{dir(p), file(p), link(p, "/a")} {
			checks(t, []api.Node{node}, errArg, 0)
			checks(t, with(ahead, node), errArg, 4)
			checks(t, with([]api.Node{node}, ahead...), errArg, 0)
		}
	}
	for b := range 256 {
		one := string([]byte{byte(b)})
		want, at := api.Errno(0), -1
		if b == 0 || one == "/" || one == "." {
			want, at = errArg, 0
		}
		checks(t, []api.Node{file("/" + one)}, want, at)
		if one == "." {
			want, at = 0, -1
		}
		if one == "/" {
			want, at = errNone, 0
		}
		checks(t, []api.Node{file("/a" + one + "b")}, want, at)
	}
}

// P23.1: clean Paths may be as they are: of names like . and .., of bytes that are no UTF-8, and of 256 bytes.
func TestCheckOfCleanPaths(t *testing.T) {
	for _, p := range []string{
		"/a", "/ab", "/...", "/.a", "/a.", "/..a", "/a..", "/ ", "/\n", "/*", "/?", "/\x01", "/\x7f", "/\x80", "/\xff", "/é", "/\\", "/A",
		"/" + strings.Repeat("a", mostBytes-2), "/" + strings.Repeat("a", mostBytes-1), "/" + strings.Repeat("\xff", mostBytes-1),
	} {
		holds(t, []api.Node{dir(p)})
		holds(t, []api.Node{file(p)})
		holds(t, []api.Node{link(p, p)})
	}
	long := "/" + strings.Repeat("a", 100)
	for n := 1; n < 300; n++ {
		l := []api.Node{dir(long), file(long + "/" + strings.Repeat("b", n))}
		if 102+n <= mostBytes {
			holds(t, l)
		} else {
			checks(t, l, errArg, 1)
		}
	}
}

// P23.1: the Kinds are 1, 2 and 3; a File and a Dir have no Target, and a Link has one.
func TestCheckOfKinds(t *testing.T) {
	kinds := []int{
		-1, 0, 1, 2, 3, 4, 5, -2, -3, -4, 7, 8, 255, 256, 257, 258, 259, 65537, 65538, 65539, 1<<32 + 1, 1<<32 + 2, 1<<32 + 3,
		math.MaxInt32, math.MinInt32, math.MaxInt, math.MaxInt - 1, math.MinInt, math.MinInt + 1,
	}
	for _, kind := range kinds {
		for _, target := range []string{"", "a", "/a"} {
			l := []api.Node{dir("/a"), {Path: "/x", Kind: kind, Target: target}}
			if kind == kindLink && target != "" || (kind == kindFile || kind == kindDir) && target == "" {
				holds(t, l)
			} else {
				checks(t, l, errArg, 1)
			}
		}
	}
}

// P23.1: a Link's Target is any text of 1 to 256 bytes without a 0: it need not be a path that may be, nor clean, nor lead anywhere.
func TestCheckOfTargets(t *testing.T) {
	for _, target := range []string{
		"a", "/", "//", "///", ".", "..", "./", "../", "/.", "/..", "../..", "a/", "/a/", "a//b", "//a", "a/./b", "a/../b", "/nowhere", "x", " ", "\n",
		"\x01", "\xff", "é", "...", "*", strings.Repeat("a", mostBytes-1), strings.Repeat("a", mostBytes), "/" + strings.Repeat("a", mostBytes-1),
		strings.Repeat("/", mostBytes), strings.Repeat("../", 85), strings.Repeat("../", 85) + "a", strings.Repeat("\xff", mostBytes),
	} {
		holds(t, []api.Node{link("/l", target)})
		holds(t, []api.Node{dir("/a"), link("/a/l", target)})
		checks(t, []api.Node{dir("/a"), {Path: "/a/f", Kind: kindFile, Target: target}}, errArg, 1)
		checks(t, []api.Node{dir("/b"), {Path: "/a", Kind: kindDir, Target: target}}, errArg, 1)
	}
	for _, target := range []string{
		"", "\x00", "a\x00", "\x00a", "/\x00", "/a\x00b", "a/\x00/b", strings.Repeat("a", mostBytes+1), "/" + strings.Repeat("a", mostBytes),
		strings.Repeat("/", mostBytes+1), strings.Repeat("../", 86), strings.Repeat("é", 129), strings.Repeat("a", mostBytes-1) + "\x00",
		strings.Repeat("a", mostBytes) + "\x00", strings.Repeat("a", 1<<16),
	} {
		checks(t, []api.Node{link("/l", target)}, errArg, 0)
		checks(t, []api.Node{dir("/a"), link("/a/l", target)}, errArg, 1)
	}
	for i := range mostBytes {
		target := []byte(strings.Repeat("a", mostBytes))
		target[i] = 0
		checks(t, []api.Node{link("/l", string(target))}, errArg, 0)
	}
}

// P23.1: the same Path stands once, whatever Kinds there are; one whose text begins with the other's is another one.
func TestCheckOfTheSameTwice(t *testing.T) {
	kinds := []func(string) api.Node{dir, file, func(p string) api.Node { return link(p, "/z") }}
	for _, one := range kinds {
		for _, other := range kinds {
			checks(t, []api.Node{one("/a"), other("/a")}, errTwice, 1)
			checks(t, []api.Node{one("/a"), dir("/b"), file("/c"), other("/a")}, errTwice, 3)
			checks(t, []api.Node{dir("/d"), one("/d/a"), other("/d/a")}, errTwice, 2)
			holds(t, []api.Node{one("/a"), other("/ab")})
			holds(t, []api.Node{one("/ab"), other("/a")})
			holds(t, []api.Node{one("/a"), other("/A")})
			holds(t, []api.Node{dir("/d"), dir("/da"), one("/d/a"), other("/da/a")})
			holds(t, []api.Node{dir("/a"), dir("/a/a"), one("/a/a/a"), other("/aa")})
		}
	}
	holds(t, []api.Node{dir("/a"), dir("/a/b"), dir("/a/b/c"), dir("/a/bc")})
	checks(t, append(row(63), dir("/d0")), errTwice, 63)
	checks(t, append(row(63), dir("/d62")), errTwice, 63)
	checks(t, []api.Node{dir("/a"), file("/b"), file("/b"), dir("/a")}, errTwice, 2)
}

// P23.1: what a node stands in is /, or a Dir ahead of it: not a File, not a Link, not a Dir behind it.
func TestCheckOfUps(t *testing.T) {
	for _, node := range []api.Node{dir("/a/b"), file("/a/b"), link("/a/b", "/c")} {
		holds(t, []api.Node{dir("/a"), node})
		holds(t, []api.Node{dir("/c"), dir("/a"), file("/d"), node})
		checks(t, []api.Node{node}, errNone, 0)
		checks(t, []api.Node{file("/a"), node}, errDir, 1)
		checks(t, []api.Node{link("/a", "/c"), node}, errDir, 1)
		checks(t, []api.Node{dir("/c"), link("/a", "/c"), node}, errDir, 2)
		checks(t, []api.Node{node, dir("/a")}, errNone, 0)
		checks(t, []api.Node{node, file("/a")}, errNone, 0)
		checks(t, []api.Node{dir("/ab"), dir("/b"), node}, errNone, 2)
		checks(t, []api.Node{dir("/A"), node}, errNone, 1)
	}
	// What stands further above is not asked: only what a node stands in.
	checks(t, []api.Node{dir("/a"), dir("/a/b/c")}, errNone, 1)
	checks(t, []api.Node{dir("/a"), dir("/a/b/c"), dir("/a/b")}, errNone, 1)
	checks(t, []api.Node{file("/a"), dir("/a/b/c")}, errNone, 1)
	checks(t, []api.Node{dir("/a"), file("/a/b"), dir("/a/b/c")}, errDir, 2)
	checks(t, []api.Node{dir("/a"), dir("/a/b"), dir("/a/b/c"), file("/a/b/c/d"), file("/a/b/c/d/e")}, errDir, 4)
	// A Link to a Dir is no Dir, also where its Target leads to one.
	checks(t, []api.Node{dir("/a"), link("/l", "/a"), file("/l/f")}, errDir, 2)
	checks(t, []api.Node{link("/l", "/"), file("/l/f")}, errDir, 1)
	l := deep(64)
	slices.Reverse(l)
	checks(t, l, errNone, 0)
	l = deep(64)
	l[31].Kind = kindFile
	checks(t, l, errDir, 32)
	l = deep(64)
	l[31], l[32] = l[32], l[31]
	checks(t, l, errNone, 31)
}

// P23.1: where several errors are so of one node, the first of them that the promise names is told.
func TestCheckTellsTheFirstError(t *testing.T) {
	ahead := []api.Node{dir("/a"), file("/f"), link("/l", "/a"), file("/a/g")}
	holds(t, ahead)
	wrong := []api.Node{
		{Path: "/a", Kind: 0}, {Path: "/a", Kind: 4}, {Path: "/f", Kind: kindFile, Target: "a"}, {Path: "/l", Kind: kindLink}, // ErrTwice else
		{Path: "/x/y", Kind: 0}, {Path: "/x/y", Kind: kindDir, Target: "/a"}, link("/x/y", ""), link("/x/y", "\x00"), // ErrNone else
		{Path: "/f/y", Kind: 0}, {Path: "/l/y", Kind: kindFile, Target: "/a"}, link("/f/y", ""), link("/a/g/y", strings.Repeat("a", 257)), // ErrDir else
		file("/a/"), dir("/f/"), dir("/x/y/"), file("/f/y/"), dir("/f/.."), dir("/x/../y"), // by what they would be cleaned to
		file("/x/" + strings.Repeat("a", 254)), file("/f/" + strings.Repeat("a", 254)), file("/x/\x00"), file("/f/\x00"),
	}
	for _, node := range wrong {
		checks(t, with(ahead, node), errArg, 4)
	}
	checks(t, with(ahead, file("/a")), errTwice, 4)
	checks(t, with(ahead, file("/a/g")), errTwice, 4)
	checks(t, with(ahead, file("/x/y")), errNone, 4)
	checks(t, with(ahead, file("/f/y")), errDir, 4)
	checks(t, with(ahead, file("/l/g")), errDir, 4)
	checks(t, with(ahead, file("/a/g/y")), errDir, 4)
}

// P23.1: where several nodes are wrong, the first of them is told, whatever is wrong with it.
func TestCheckTellsTheFirstNode(t *testing.T) {
	wrong := []struct {
		node api.Node
		want api.Errno
	}{{dir("a"), errArg}, {dir("/a"), errTwice}, {dir("/x/y"), errNone}, {dir("/f/y"), errDir}}
	ahead := []api.Node{dir("/a"), file("/f")}
	for _, one := range wrong {
		for _, other := range wrong {
			checks(t, with(ahead, one.node, other.node), one.want, 2)
			checks(t, with(ahead, dir("/b"), one.node, dir("/c"), other.node), one.want, 3)
			for _, third := range wrong {
				checks(t, with(ahead, one.node, other.node, third.node), one.want, 2)
			}
		}
	}
	// A node that is wrong makes others behind it wrong, or right, but it is told first.
	checks(t, []api.Node{dir("/x/y"), dir("/x"), dir("/x/y")}, errNone, 0)
	checks(t, []api.Node{{Path: "/x", Kind: 9}, file("/x/y"), dir("/x")}, errArg, 0)
	checks(t, []api.Node{dir("/a"), file("/b"), file("/b/c"), dir("/a")}, errDir, 2)
}

// P23.1: all lists of up to four nodes out of those that matter.
func TestShortListsFollowTheWords(t *testing.T) {
	nodes := []api.Node{
		{}, dir("/"), dir("/a"), file("/a"), link("/a", "b"), dir("/a/"), dir("/a/b"), file("/a/b"), link("/a/b", "/"), link("/a/b", ""),
		dir("/ab"), file("/a/b/c"), {Path: "/a/b", Kind: 4}, dir("/b/c"), dir("/b"),
	}
	lists := [][]api.Node{nil}
	for from, n := 0, 0; n < 4; n++ {
		till := len(lists)
		for _, l := range lists[from:till] {
			for _, node := range nodes {
				lists = append(lists, with(l, node))
			}
		}
		from = till
	}
	right := 0
	for _, l := range lists {
		wrong, at := slowCheck(l)
		checks(t, l, wrong, at)
		if wrong == 0 {
			right++
		}
	}
	if right < 100 {
		t.Error(right)
	}
}

// P23.2: a node that is there is told as it is; the first one, if it stands twice.
func TestFind(t *testing.T) {
	l := []api.Node{dir("/a"), file("/a/f"), link("/l", "a"), dir("/ab"), link("/a/m", "../l")}
	holds(t, l)
	for _, node := range l {
		finds(t, l, node.Path, node)
	}
	twice := []api.Node{dir("/b"), link("/a", "x"), file("/a"), dir("/a"), file("/b")}
	finds(t, twice, "/a", link("/a", "x"))
	finds(t, twice, "/b", dir("/b"))
	finds(t, twice[2:], "/a", file("/a"))
	finds(t, twice[3:], "/b", file("/b"))
}

// P23.2: none and false of a path that no node has, also where one is written otherwise, or a link would lead there.
func TestFindOfNone(t *testing.T) {
	l := []api.Node{dir("/a"), file("/a/f"), link("/l", "a"), dir("/ab")}
	for _, p := range slices.Concat([]string{
		"", "/b", "/a/", "//a", "/a/.", "/./a", "/a/f/", "/a//f", "/a/f/..", "/ab/../a", "/l/f", "/l/", "/A", "/abc", "/a/b", "/a/fg", "a",
		"a/f", "/f", "/a\x00", "/x/y",
	}, wrongPaths()) {
		findsNone(t, l, p)
		findsNone(t, nil, p)
		findsNone(t, []api.Node{}, p)
	}
	for _, p := range uncleanPaths() {
		findsNone(t, l, p)
		findsNone(t, nil, p)
	}
}

// P23.2: of / a Dir, in every list; it is no node of any.
func TestFindOfTheTop(t *testing.T) {
	for _, l := range [][]api.Node{nil, {}, {dir("/a")}, {file("/a"), link("/l", "/")}, {{}}, row(64), row(65), {file("/")}, {link("/", "/a")}} {
		finds(t, l, "/", dir("/"))
	}
	findsNone(t, nil, "//")
	findsNone(t, nil, "/.")
	findsNone(t, nil, "")
}

// P23.2: Find does not ask whether the list may be a tree, nor whether the path may be.
func TestFindInListsThatMayNotBe(t *testing.T) {
	l := []api.Node{file("/x/y"), {Path: "", Kind: 7, Target: "t"}, {Path: "/a/", Kind: -1}, {Path: "a\x00"}, file("/x/y"), link("/m", "")}
	for _, node := range l {
		finds(t, l, node.Path, node)
	}
	long := strings.Repeat("/a", 1000)
	finds(t, []api.Node{file("/a"), dir(long)}, long, dir(long))
	many := row(1000)
	finds(t, many, "/d999", dir("/d999"))
	findsNone(t, many, "/d1000")
}

// P23.3: of a list that may not be a tree Check's error, whatever the path is: also where that may not be either.
func TestResolveInTreesThatMayNotBe(t *testing.T) {
	lists := map[api.Errno][]api.Node{
		errLong:  row(65),
		errArg:   {dir("/a"), file("/a/f"), dir("/a/")},
		errTwice: {dir("/a"), file("/a/f"), dir("/a")},
		errNone:  {dir("/a"), file("/a/f"), file("/x/y")},
		errDir:   {dir("/a"), file("/a/f"), file("/a/f/g")},
	}
	for want, l := range lists {
		for _, p := range slices.Concat([]string{"/", "/a", "/a/f", "/x", "/a/f/g", "/a/..", "/d0"}, wrongPaths(), uncleanPaths()) {
			leadsNowhere(t, l, p, want)
		}
	}
	leadsNowhere(t, make([]api.Node, 65), "", errLong)
	leadsNowhere(t, []api.Node{dir("/")}, "/", errArg)
}

// P23.3: a path that may not be: ErrArg, whatever the tree is.
func TestResolveOfPathsThatMayNotBe(t *testing.T) {
	for _, l := range [][]api.Node{nil, {}, {dir("/a"), file("/a/b"), file("/f"), link("/l", "a")}, row(64)} {
		for _, p := range wrongPaths() {
			leadsNowhere(t, l, p, errArg)
		}
	}
}

// P23.3: / is a Dir that is always there; nothing stands above it, and what does not matter in a path leads nowhere else.
func TestResolveOfTheTop(t *testing.T) {
	for _, l := range [][]api.Node{nil, {}, {dir("/a"), file("/a/f"), link("/l", "/a")}, {link("/o", "/o")}, row(64)} {
		for _, p := range []string{
			"/", "//", "///", "/.", "/./", "/./.", "/..", "/../", "/../..", "/./../.", "/..//..", strings.Repeat("/", mostBytes),
			strings.Repeat("/..", 85), strings.Repeat("/.", mostBytes/2), strings.Repeat("/..", 85) + "/",
		} {
			leads(t, l, p, "/", kindDir)
		}
	}
}

// P23.3: files and directories lead to themselves; with a / or . behind, and with empty names, . and .. among their names.
func TestResolveWithoutLinks(t *testing.T) {
	l := []api.Node{dir("/a"), dir("/a/b"), file("/a/b/f"), file("/f"), dir("/ab"), file("/a/...")}
	holds(t, l)
	for _, node := range l {
		for _, p := range []string{node.Path, node.Path + "/", node.Path + "//", node.Path + "/.", node.Path + "/./", "/" + node.Path, "/." + node.Path, "/.." + node.Path} {
			leads(t, l, p, node.Path, node.Kind)
		}
	}
	leads(t, l, "/a/..", "/", kindDir)
	leads(t, l, "/a/../a", "/a", kindDir)
	leads(t, l, "/a/b/..", "/a", kindDir)
	leads(t, l, "/a/b/../..", "/", kindDir)
	leads(t, l, "/a/b/../../..", "/", kindDir)
	leads(t, l, "/a/b/../../../f", "/f", kindFile)
	leads(t, l, "/a/./b//../b/./f", "/a/b/f", kindFile)
	leads(t, l, "/a/../ab/../a/b", "/a/b", kindDir)
	leads(t, l, "/a/b/../...", "/a/...", kindFile)
}

// P23.3: what is not there, and below it; .. does not help out of it, as it would in Clean.
func TestResolveOfNone(t *testing.T) {
	l := []api.Node{dir("/a"), dir("/a/b"), file("/a/b/f"), file("/f")}
	for _, p := range []string{
		"/x", "/x/", "/x/y", "/x/..", "/x/../a", "/x/.", "/a/x", "/a/x/..", "/a/b/x", "/a/f", "/b", "/A", "/ab", "/a/bc", "/a/b/ff", "/...", "/.a",
		"/a/..b", "/a/../b", "/a/b/../f", "/ a", "/a ", "/" + strings.Repeat("x", mostBytes-1), "/a/" + strings.Repeat("x", mostBytes-3),
	} {
		leadsNowhere(t, l, p, errNone)
	}
	for _, p := range []string{"/a", "/f", "/x/..", "/..a"} {
		leadsNowhere(t, nil, p, errNone)
		leadsNowhere(t, []api.Node{}, p, errNone)
	}
}

// P23.3: names left behind a File: ErrDir, be it one that is there nowhere, or ..; but what is no name is none that is left.
func TestResolveBelowFiles(t *testing.T) {
	l := []api.Node{dir("/a"), file("/a/f"), file("/f"), link("/l", "f"), link("/m", "a/f"), link("/a/k", "f/..")}
	for _, p := range []string{"/f", "/a/f", "/l", "/m"} {
		for _, more := range []string{"/x", "/..", "/f", "/a", "/../f", "/./..", "//..", "/x/..", "/..."} {
			leadsNowhere(t, l, p+more, errDir)
		}
		for _, more := range []string{"", "/", "/.", "//", "/./", "/././/"} {
			want := map[string]string{"/f": "/f", "/a/f": "/a/f", "/l": "/f", "/m": "/a/f"}[p]
			leads(t, l, p+more, want, kindFile)
		}
	}
	leadsNowhere(t, l, "/a/k", errDir)
	leadsNowhere(t, l, "/a/k/f", errDir)
}

// P23.3: a link to a File, a Dir, another link, itself, what is not there, / and .., with names behind it and without.
func TestResolveOfLinks(t *testing.T) {
	l := []api.Node{
		dir("/a"), dir("/a/b"), file("/a/f"), file("/a/b/g"),
		link("/file", "/a/f"), link("/dir", "/a"), link("/link", "/dir"), link("/self", "/self"), link("/none", "/x"),
		link("/top", "/"), link("/up", ".."), link("/a/up", ".."), link("/a/b/up", ".."), link("/a/b/f", "../f"),
	}
	holds(t, l)
	leads(t, l, "/file", "/a/f", kindFile)
	leadsNowhere(t, l, "/file/f", errDir)
	leads(t, l, "/dir", "/a", kindDir)
	leads(t, l, "/dir/", "/a", kindDir)
	leads(t, l, "/dir/f", "/a/f", kindFile)
	leads(t, l, "/dir/b/g", "/a/b/g", kindFile)
	leadsNowhere(t, l, "/dir/x", errNone)
	leads(t, l, "/link", "/a", kindDir)
	leads(t, l, "/link/b", "/a/b", kindDir)
	leadsNowhere(t, l, "/self", errHops)
	leadsNowhere(t, l, "/self/x", errHops)
	leadsNowhere(t, l, "/none", errNone)
	leadsNowhere(t, l, "/none/..", errNone)
	leads(t, l, "/top", "/", kindDir)
	leads(t, l, "/top/a/f", "/a/f", kindFile)
	leads(t, l, "/top/top/top/dir", "/a", kindDir)
	leads(t, l, "/up", "/", kindDir)
	leads(t, l, "/up/a", "/a", kindDir)
	leads(t, l, "/a/up", "/", kindDir)
	leads(t, l, "/a/up/a/up/a", "/a", kindDir)
	leads(t, l, "/a/b/up", "/a", kindDir)
	leads(t, l, "/a/b/up/b/up/f", "/a/f", kindFile)
	leads(t, l, "/a/b/f", "/a/f", kindFile)
	leads(t, l, "/dir/b/f", "/a/f", kindFile)
	leads(t, l, "/dir/up/file", "/a/f", kindFile)
}

// P23.3: a Target is gone on with from /, if it begins with /; else from the directory in which the link stands, however that was come to.
func TestResolveFromWhere(t *testing.T) {
	l := []api.Node{
		dir("/a"), dir("/a/a"), file("/a/f"), file("/f"), file("/a/a/f"), dir("/b"),
		link("/abs", "/f"), link("/rel", "f"), link("/a/abs", "/f"), link("/a/rel", "f"), link("/a/a/abs", "/f"), link("/a/a/rel", "f"),
		link("/b/a", "/a"), link("/b/x", "a/a/rel"), link("/b/y", "/a/rel"), link("/b/z", "rel"), link("/a/a/w", "//a/./rel"),
	}
	holds(t, l)
	for _, p := range []string{"/abs", "/a/abs", "/a/a/abs", "/b/a/abs", "/b/a/a/abs", "/rel"} {
		leads(t, l, p, "/f", kindFile)
	}
	leads(t, l, "/a/rel", "/a/f", kindFile)
	leads(t, l, "/a/a/rel", "/a/a/f", kindFile)
	leads(t, l, "/b/a/rel", "/a/f", kindFile)
	leads(t, l, "/b/a/a/rel", "/a/a/f", kindFile)
	leads(t, l, "/b/x", "/a/a/f", kindFile)
	leads(t, l, "/b/y", "/a/f", kindFile)
	leadsNowhere(t, l, "/b/z", errNone)
	leads(t, l, "/a/a/w", "/a/f", kindFile)
	leads(t, l, "/b/../rel", "/f", kindFile)
	leads(t, l, "/b/a/../rel", "/f", kindFile)
}

// P23.3: .. behind a link leads to the directory above that where the link led, not above that in which the link stands.
func TestResolveUpBehindLinks(t *testing.T) {
	l := []api.Node{
		dir("/a"), dir("/a/b"), dir("/a/b/c"), file("/a/f"), file("/f"), dir("/d"), dir("/d/e"),
		link("/l", "/a/b"), link("/d/l", "/a/b/c"), link("/d/e/l", "../../a/b"), link("/t", "/"), link("/d/e/up", ".."), link("/m", "l"),
	}
	holds(t, l)
	leads(t, l, "/l/..", "/a", kindDir)
	leads(t, l, "/l/../f", "/a/f", kindFile)
	leads(t, l, "/l/../..", "/", kindDir)
	leads(t, l, "/l/../../f", "/f", kindFile)
	leads(t, l, "/d/l/..", "/a/b", kindDir)
	leads(t, l, "/d/l/../../f", "/a/f", kindFile)
	leads(t, l, "/d/e/l/..", "/a", kindDir)
	leads(t, l, "/d/e/l/../../d", "/d", kindDir)
	leads(t, l, "/t/..", "/", kindDir)
	leads(t, l, "/d/e/up/..", "/", kindDir)
	leads(t, l, "/d/e/up/e/..", "/d", kindDir)
	leads(t, l, "/m/..", "/a", kindDir)
	leads(t, l, "/m/./../b/c/..", "/a/b", kindDir)
	leadsNowhere(t, l, "/l/../e", errNone)
	leadsNowhere(t, l, "/d/l/../l", errNone)
}

// P23.3: Targets that have no names, or .. alone, in / and deeper down.
func TestResolveOfTargetsWithoutNames(t *testing.T) {
	cases := []struct {
		target, top, below string
	}{
		{".", "/", "/a/b"}, {"./", "/", "/a/b"}, {"./.", "/", "/a/b"}, {".//", "/", "/a/b"}, {"././", "/", "/a/b"},
		{"/", "/", "/"}, {"//", "/", "/"}, {"///", "/", "/"}, {"/.", "/", "/"}, {"/./", "/", "/"}, {"//.//", "/", "/"},
		{"/..", "/", "/"}, {"/../..", "/", "/"}, {"..", "/", "/a"}, {"../", "/", "/a"}, {"./..", "/", "/a"}, {"../.", "/", "/a"}, {"..//", "/", "/a"},
		{"../..", "/", "/"}, {"../../..", "/", "/"}, {"." + strings.Repeat("/", 255), "/", "/a/b"},
		{strings.Repeat("/", 256), "/", "/"}, {strings.Repeat("/.", 128), "/", "/"}, {strings.Repeat("./", 128), "/", "/a/b"},
		{strings.Repeat("../", 85), "/", "/"},
	}
	for _, c := range cases {
		l := []api.Node{dir("/a"), dir("/a/b"), file("/f"), file("/a/f"), file("/a/b/f"), link("/l", c.target), link("/a/b/l", c.target)}
		holds(t, l)
		for _, more := range []string{"", "/", "/.", "//"} {
			leads(t, l, "/l"+more, c.top, kindDir)
			leads(t, l, "/a/b/l"+more, c.below, kindDir)
		}
		leads(t, l, "/l/f", "/f", kindFile)
		leads(t, l, "/a/b/l/f", strings.TrimSuffix(c.below, "/")+"/f", kindFile)
		leads(t, l, "/l/..", "/", kindDir)
		leads(t, l, "/a/b/l/..", slowUp(c.below), kindDir)
		leadsNowhere(t, l, "/l/x", errNone)
		leadsNowhere(t, l, "/a/b/l/x", errNone)
	}
}

// P23.3: Targets that hold .. and names of further links: they are gone through name by name, as a path is.
func TestResolveOfTargetsThroughLinks(t *testing.T) {
	l := []api.Node{
		dir("/a"), dir("/a/b"), dir("/a/b/c"), file("/a/f"), file("/a/b/f"), file("/a/b/c/f"), dir("/d"),
		link("/d/ab", "../a/b"), link("/d/up", "ab/.."), link("/d/f", "ab/../f"), link("/d/c", "up/b/c"), link("/d/cf", "c/../c/f"),
		link("/d/none", "ab/x/.."), link("/d/file", "up/f/.."), link("/d/wide", "/d//./c/../../f/"), link("/a/b/home", "../../d/up/b"),
	}
	holds(t, l)
	leads(t, l, "/d/ab", "/a/b", kindDir)
	leads(t, l, "/d/up", "/a", kindDir)
	leads(t, l, "/d/f", "/a/f", kindFile)
	leads(t, l, "/d/c", "/a/b/c", kindDir)
	leads(t, l, "/d/c/..", "/a/b", kindDir)
	leads(t, l, "/d/cf", "/a/b/c/f", kindFile)
	leadsNowhere(t, l, "/d/none", errNone)
	leadsNowhere(t, l, "/d/file", errDir)
	leads(t, l, "/d/wide", "/a/f", kindFile)
	leads(t, l, "/a/b/home", "/a/b", kindDir)
	leads(t, l, "/a/b/home/c/f", "/a/b/c/f", kindFile)
	leads(t, l, "/a/b/home/home", "/a/b", kindDir)
}

// P23.3: 7, 8 and 9 links in a row: the ninth would be followed, so that is ErrHops; others before and behind are no links.
func TestResolveOfLinksInARow(t *testing.T) {
	for n := 1; n <= 12; n++ {
		for _, last := range []string{"/a/f", "a", "/", "x", "a/f/.."} {
			l := with([]api.Node{dir("/a"), file("/a/f")}, chain(n, last)...)
			holds(t, l)
			for i := 1; i <= n; i++ {
				p := "/l" + strconv.Itoa(i)
				switch {
				case n-i+1 > mostHops:
					leadsNowhere(t, l, p, errHops)
					leadsNowhere(t, l, p+"/x", errHops)
					leadsNowhere(t, l, "/a/.."+p+"/..", errHops)
				case last == "/a/f":
					leads(t, l, p, "/a/f", kindFile)
					leadsNowhere(t, l, p+"/x", errDir)
				case last == "a":
					leads(t, l, p+"/f", "/a/f", kindFile)
				case last == "/":
					leads(t, l, "/a/.."+p, "/", kindDir)
				case last == "x":
					leadsNowhere(t, l, p, errNone)
				default:
					leadsNowhere(t, l, p, errDir)
				}
			}
		}
	}
}

// P23.3: 7, 8 and 9 links side by side in one path, one and the same several times, or each another one.
func TestResolveOfLinksSideBySide(t *testing.T) {
	l := []api.Node{dir("/a"), file("/a/f"), link("/here", "."), link("/top", "/"), link("/a/up", ".."), link("/a/here", "."), link("/in", "a")}
	for n := range 13 {
		wants := func(p, want string, kind, followed int) {
			t.Helper()
			if followed > mostHops {
				leadsNowhere(t, l, p, errHops)
			} else {
				leads(t, l, p, want, kind)
			}
		}
		wants("/"+strings.Repeat("/here", n), "/", kindDir, n)
		wants("/"+strings.Repeat("/top", n), "/", kindDir, n)
		wants(strings.Repeat("/here", n)+"/a/f", "/a/f", kindFile, n)
		wants("/a"+strings.Repeat("/here", n), "/a", kindDir, n)
		wants("/a"+strings.Repeat("/up/a", n), "/a", kindDir, n)
		wants(strings.Repeat("/in/..", n)+"/a", "/a", kindDir, n)
		wants("/"+strings.Repeat("/in/up", n), "/", kindDir, 2*n)
		wants("/"+strings.Repeat("/in/up/here/top", n), "/", kindDir, 4*n)
		wants(strings.Repeat("/a/..", 9)+strings.Repeat("/here", n)+"/a/..", "/", kindDir, n)
	}
	var many []api.Node
	for i := range 9 {
		many = append(many, link("/m"+strconv.Itoa(i), "/"))
	}
	leads(t, many, "/m0/m1/m2/m3/m4/m5/m6", "/", kindDir)
	leads(t, many, "/m0/m1/m2/m3/m4/m5/m6/m7", "/", kindDir)
	leadsNowhere(t, many, "/m0/m1/m2/m3/m4/m5/m6/m7/m8", errHops)
}

// P23.3: side by side and in a row: all links of one call together are counted, and those of each call anew.
func TestResolveCountsAllLinks(t *testing.T) {
	l := with([]api.Node{dir("/a"), link("/a/t", "/"), link("/s", "l2")}, chain(4, "/a")...)
	holds(t, l)
	for range 3 {
		leads(t, l, "/l1/../l1", "/a", kindDir)      // 4 and 4
		leads(t, l, "/l1/t/l2", "/a", kindDir)       // 4, 1 and 3
		leadsNowhere(t, l, "/l1/t/l1", errHops)      // 4, 1 and 4
		leadsNowhere(t, l, "/s/t/s", errHops)        // 4, 1 and 4
		leads(t, l, "/s/../l3/../l3", "/a", kindDir) // 4, 2 and 2
	}
}

// P23.3: links in a ring, of one, two and more, and one that leads into itself with names behind.
func TestResolveOfRings(t *testing.T) {
	for n := 1; n <= 10; n++ {
		l := chain(n, "/l1")
		holds(t, l)
		for i := 1; i <= n; i++ {
			leadsNowhere(t, l, "/l"+strconv.Itoa(i), errHops)
			leadsNowhere(t, l, "/l"+strconv.Itoa(i)+"/..", errHops)
		}
	}
	l := []api.Node{dir("/a"), link("/a/o", "o"), link("/a/p", "../a/p/x"), link("/a/q", "q/q"), link("/r", "r/.."), link("/s", "./s/.")}
	for _, p := range []string{"/a/o", "/a/p", "/a/q", "/r", "/s", "/a/o/x", "/r/a", "/a/../s"} {
		leadsNowhere(t, l, p, errHops)
	}
}

// P23.3: where several errors could be told, it is that of the first name at which one is.
func TestResolveTellsTheFirstError(t *testing.T) {
	l := with([]api.Node{dir("/a"), file("/f"), link("/o", "/o"), link("/x", "/none"), link("/h", ".")}, chain(9, "/none")...)
	holds(t, l)
	leadsNowhere(t, l, "/none/o", errNone)
	leadsNowhere(t, l, "/none/f/x", errNone)
	leadsNowhere(t, l, "/o/none", errHops)
	leadsNowhere(t, l, "/o/f/x", errHops)
	leadsNowhere(t, l, "/f/o", errDir)
	leadsNowhere(t, l, "/f/none", errDir)
	leadsNowhere(t, l, "/x/o", errNone)
	leadsNowhere(t, l, "/x/f/x", errNone)
	// The ninth leads nowhere, but it is not followed.
	leadsNowhere(t, l, "/l1", errHops)
	leadsNowhere(t, l, "/l2", errNone)
	// Eight were followed, and what comes then is no link.
	eight := strings.Repeat("/h", 8)
	leadsNowhere(t, l, eight+"/none", errNone)
	leadsNowhere(t, l, eight+"/f/none", errDir)
	leadsNowhere(t, l, eight+"/none/h", errNone)
	leadsNowhere(t, l, eight+"/f/h", errDir)
	leadsNowhere(t, l, eight+"/h/none", errHops)
	leadsNowhere(t, l, eight+"/h/f/x", errHops)
	leadsNowhere(t, l, eight+"/x", errHops)
	leads(t, l, eight+"/f", "/f", kindFile)
	leads(t, l, eight+"/a", "/a", kindDir)
	leads(t, l, eight+"/a/..", "/", kindDir)
	// A path that may not be, and one through a link that would be too many.
	leadsNowhere(t, l, "/o\x00", errArg)
	leadsNowhere(t, l, "o", errArg)
}

// P23.3: the longest paths: of one name, of the most names, and through all that a tree may have in one another.
func TestResolveOfLongPaths(t *testing.T) {
	longest := "/" + strings.Repeat("n", mostBytes-1)
	leads(t, []api.Node{file(longest)}, longest, longest, kindFile)
	leadsNowhere(t, []api.Node{file(longest)}, longest+"/", errArg)
	leadsNowhere(t, []api.Node{file(longest)}, longest[:mostBytes-1], errNone)
	l := deep(64)
	whole := strings.Repeat("/abc", 64)
	if len(whole) != mostBytes {
		t.Fatal(len(whole))
	}
	leads(t, l, whole, whole, kindDir)
	leads(t, l, whole[:252]+"/..", whole[:248], kindDir)
	leadsNowhere(t, l, whole+"/..", errArg)
	leadsNowhere(t, l, whole[:252]+"/abd", errNone)
	leads(t, []api.Node{dir("/a")}, strings.Repeat("/a/..", 51), "/", kindDir)
	leads(t, []api.Node{dir("/a")}, strings.Repeat("/a/..", 50)+"/a", "/a", kindDir)
	leads(t, []api.Node{dir("/a")}, strings.Repeat("/", mostBytes-1)+"a", "/a", kindDir)
	leads(t, []api.Node{dir("/a")}, strings.Repeat("/..", 84)+"//a", "/a", kindDir)
	leadsNowhere(t, []api.Node{dir("/a")}, strings.Repeat("/a", mostBytes/2), errNone)
}

// P23.3: the longest Targets, with a / at the front and without: what is gone through may be longer than a path may be.
func TestResolveOfLongTargets(t *testing.T) {
	name := strings.Repeat("n", mostBytes-1)
	l := []api.Node{file("/" + name), dir("/d"), link("/abs", "/"+name), link("/rel", name), link("/d/rel", name), link("/d/up", "../"+name[:253])}
	holds(t, l)
	leads(t, l, "/abs", "/"+name, kindFile)
	leads(t, l, "/rel", "/"+name, kindFile)
	leadsNowhere(t, l, "/d/rel", errNone)
	leadsNowhere(t, l, "/d/up", errNone)
	// A name of 256 bytes is no node's, wherever it is asked for.
	l = []api.Node{dir("/d"), link("/l", name+"n"), link("/d/l", name+"n")}
	leadsNowhere(t, l, "/l", errNone)
	leadsNowhere(t, l, "/d/l", errNone)
	for _, target := range []string{
		strings.Repeat("../", 85) + "d", strings.Repeat("/..", 84) + "///d", "./" + strings.Repeat("d/../", 50) + "./d/", strings.Repeat("d/../", 51) + "d",
		strings.Repeat("./", 127) + "d/", "d" + strings.Repeat("/", 255), "d" + strings.Repeat("/.", 127) + "/", strings.Repeat("/", 255) + "d",
	} {
		if len(target) != mostBytes {
			t.Fatalf("%q has %d bytes", target, len(target))
		}
		l = []api.Node{dir("/d"), file("/d/f"), link("/l", target)}
		holds(t, l)
		leads(t, l, "/l", "/d", kindDir)
		leads(t, l, "/l/f", "/d/f", kindFile)
		leads(t, l, "/l/../l/f", "/d/f", kindFile)
		leads(t, l, "/d/../l/"+strings.Repeat("./", 123)+"f", "/d/f", kindFile)
	}
	// A Target that is gone through from far down: both together are far longer than a path may be.
	l = append(deep(61), link(strings.Repeat("/abc", 61)+"/l", strings.Repeat("../", 61)+strings.Repeat("abc/", 18)+"."))
	holds(t, l)
	leads(t, l, strings.Repeat("/abc", 61)+"/l", strings.Repeat("/abc", 18), kindDir)
	leads(t, l, strings.Repeat("/abc", 61)+"/l/abc/..", strings.Repeat("/abc", 18), kindDir)
}

// P23.3: many names that Targets put ahead of the others, of up to eight links with 128 names each.
func TestResolveOfManyNames(t *testing.T) {
	back := strings.Repeat("a/../", 50)
	for n := 1; n <= 9; n++ {
		var l []api.Node
		for i := 1; i < n; i++ {
			l = append(l, link("/l"+strconv.Itoa(i), back+"l"+strconv.Itoa(i+1)))
		}
		l = append(l, link("/l"+strconv.Itoa(n), back), dir("/a"), file("/a/f"))
		holds(t, l)
		p := "/l1" + strings.Repeat("/a/..", 50)
		if n > mostHops {
			leadsNowhere(t, l, p, errHops)
			continue
		}
		leads(t, l, p, "/", kindDir)
		leads(t, l, "/l1"+strings.Repeat("/a/..", 48)+"/a/f", "/a/f", kindFile)
		leadsNowhere(t, l, p+"/x", errNone)
	}
	// Each link puts itself ahead of itself: the names that are left grow with each one.
	l := []api.Node{link("/o", strings.Repeat("o/", 128))}
	leadsNowhere(t, l, "/o", errHops)
	leadsNowhere(t, l, strings.Repeat("/o", 128), errHops)
	l = []api.Node{link("/o", strings.Repeat("/", 128)+strings.Repeat("../", 42)), dir("/a")}
	leads(t, l, strings.Repeat("/o", 8)+"/a", "/a", kindDir)
}

// pieces are all texts made of up to so many out of a few.
func pieces(n int, of ...string) []string {
	texts := []string{""}
	for from := 0; n > 0; n-- {
		till := len(texts)
		for _, text := range texts[from:till] {
			for _, piece := range of {
				texts = append(texts, text+piece)
			}
		}
		from = till
	}
	return texts
}

// P23.3: each short path in a tree with files, directories and links of each kind.
func TestShortPathsFollowTheWords(t *testing.T) {
	trees := [][]api.Node{
		nil,
		{dir("/a"), file("/a/f"), link("/a/l", ".."), file("/f"), link("/l", "a")},
		{dir("/a"), dir("/a/a"), link("/a/l", "l"), link("/f", "/a/a"), link("/l", "f/..")},
		{link("/a", "/"), link("/l", "a/f"), dir("/f"), file("/f/a"), link("/f/f", "/l/f"), link("/f/l", "../a")},
		{dir("/a"), link("/a/a", "."), link("/a/f", "../f"), file("/f"), link("/l", "a/a/a")},
		{file("/a"), link("/l", "./a/"), link("/f", "l/..")},
	}
	for _, l := range trees {
		holds(t, l)
		for _, p := range pieces(5, "/", ".", "a", "l", "f") {
			follows(t, l, p)
		}
		for _, p := range pieces(6, "/a", "/l", "/..", "/f") {
			follows(t, l, p)
		}
	}
}

// P23.3: each short Target, of a link in / and of one deeper down.
func TestShortTargetsFollowTheWords(t *testing.T) {
	paths := []string{"/l", "/a/l", "/l/..", "/a/l/..", "/l/f", "/a/l/f", "/l/l", "/a/l/l", "/l/a/l", "/a/../l/../a/l", "/l/../../a/f"}
	for _, target := range pieces(5, "/", ".", "..", "a", "l", "f") {
		for _, l := range [][]api.Node{
			{dir("/a"), file("/a/f"), link("/l", target), link("/a/l", "..")},
			{dir("/a"), file("/f"), link("/l", "a/"), link("/a/l", target)},
			{link("/l", target), dir("/a"), link("/a/l", target), file("/a/f")},
		} {
			if len(target) > 4 {
				p := paths[len(target)%len(paths)]
				follows(t, l, p)
				continue
			}
			for _, p := range paths {
				follows(t, l, p)
			}
		}
	}
}

// scatteredText is a path or a Target out of few names, so that it leads somewhere often.
func scatteredText(r *rand.Rand) string {
	kinds := []string{"a", "b", "c", "d", "a", "b", "..", ".", "", "x", "..", "c/d", "a/b"}
	var parts []string
	for range 1 + r.Intn(6) {
		parts = append(parts, kinds[r.Intn(len(kinds))])
	}
	return strings.Join(parts, "/")
}

// scatteredTree is a tree that may be, most times, out of few names.
func scatteredTree(r *rand.Rand, most int) []api.Node {
	ups, l := []string{""}, []api.Node(nil)
	for range r.Intn(most + 1) {
		p := ups[r.Intn(len(ups))] + "/" + []string{"a", "b", "c", "d"}[r.Intn(4)]
		if _, there := slowFind(l, p); there && r.Intn(100) > 0 {
			continue
		}
		switch r.Intn(6) {
		case 0:
			l = append(l, file(p))
		case 1, 2, 3:
			l = append(l, dir(p))
			ups = append(ups, p)
		default:
			target := scatteredText(r)
			if r.Intn(2) == 0 {
				target = "/" + target
			}
			l = append(l, link(p, target))
		}
	}
	if len(l) > 0 && r.Intn(20) == 0 {
		l[r.Intn(len(l))] = []api.Node{{}, dir("/x/y"), dir("/a/b"), file("/a"), link("/l", "")}[r.Intn(5)]
	}
	return l
}

// P23.1 to P23.3: scattered trees, of which most may be, and scattered paths.
func TestScatteredFollowTheWords(t *testing.T) {
	r := rand.New(rand.NewSource(1))
	told := map[api.Errno]int{}
	for range 6000 {
		l := scatteredTree(r, 14)
		for range 12 {
			p := "/" + scatteredText(r)
			if r.Intn(50) == 0 {
				p = p[1:]
			}
			follows(t, l, p)
			told[slowResolve(l, p).wrong]++
		}
	}
	for _, wrong := range []api.Errno{0, errArg, errTwice, errNone, errHops, errDir} {
		if told[wrong] < 100 {
			t.Errorf("%d was told %d times", wrong, told[wrong])
		}
	}
}

// P23.4: where a path leads is clean, leads to itself, and is no link; at most eight links are followed.
func TestTheoremOfScattered(t *testing.T) {
	r := rand.New(rand.NewSource(2))
	led := 0
	for range 4000 {
		l := scatteredTree(r, 20)
		for range 10 {
			p := "/" + scatteredText(r)
			s, kind, wrong := Resolve(l, p)
			if wrong != 0 {
				continue
			}
			led++
			if clean, e := path.Clean(s); clean != s || e != 0 || !slowClean(s) {
				t.Errorf("Resolve(%s, %q): %q", shown(l...), p, s)
			}
			leads(t, l, s, s, kind)
			if node, is := Find(l, s); !is || node.Kind != kind || kind == kindLink {
				t.Errorf("Resolve(%s, %q): %q, %d, where %s stands", shown(l...), p, s, kind, shown(node))
			}
			if n := slowResolve(l, p).followed; n > mostHops {
				t.Errorf("Resolve(%s, %q): %d links", shown(l...), p, n)
			}
		}
	}
	if led < 5000 {
		t.Error(led)
	}
}

// P23.4: in a tree without links a path of names but .. leads to its Clean, or nowhere.
func TestTheoremWithoutLinks(t *testing.T) {
	r := rand.New(rand.NewSource(3))
	led, lost := 0, 0
	for range 4000 {
		l := slices.DeleteFunc(scatteredTree(r, 20), func(node api.Node) bool { return node.Kind == kindLink })
		if wrong, _ := Check(l); wrong != 0 {
			continue
		}
		for range 10 {
			p := strings.ReplaceAll("/"+scatteredText(r), "..", "a")
			clean, _ := path.Clean(p)
			node, is := Find(l, clean)
			s, kind, wrong := Resolve(l, p)
			switch {
			case is && (s != clean || kind != node.Kind || wrong != 0):
				t.Errorf("Resolve(%s, %q): %q, %d, %d", shown(l...), p, s, kind, wrong)
			case !is && (s != "" || kind != 0 || wrong != errNone && wrong != errDir):
				t.Errorf("Resolve(%s, %q): %q, %d, %d", shown(l...), p, s, kind, wrong)
			case is:
				led++
			default:
				lost++
			}
		}
	}
	if led < 1000 || lost < 1000 {
		t.Error(led, lost)
	}
}

// P23.4: a link more, to a path that leads somewhere, leads there too, unless a ninth link would be followed.
func TestTheoremOfALinkMore(t *testing.T) {
	r := rand.New(rand.NewSource(4))
	led, hopped := 0, 0
	for range 4000 {
		l := scatteredTree(r, 20)
		for range 8 {
			p := "/" + scatteredText(r)
			s, kind, wrong := Resolve(l, p)
			if wrong != 0 {
				continue
			}
			more := with(l, link("/more", p), link("/again", "more"), link("/part", "./"+p[1:]))
			leads(t, more, p, s, kind)
			followed := slowResolve(l, p).followed
			for _, one := range []struct {
				path string
				n    int
			}{{"/more", 1}, {"/again", 2}, {"/part", 1}, {"/more/.", 1}} {
				if followed+one.n > mostHops {
					leadsNowhere(t, more, one.path, errHops)
					hopped++
				} else {
					leads(t, more, one.path, s, kind)
					led++
				}
			}
		}
	}
	if led < 5000 || hopped < 1 {
		t.Error(led, hopped)
	}
}

// P23.4: a link more, to each path of a chain that leads somewhere.
func TestTheoremOfALinkMoreToAChain(t *testing.T) {
	for n := 1; n <= 9; n++ {
		l := with([]api.Node{dir("/a"), file("/a/f")}, chain(n, "/a/f")...)
		l = with(l, link("/more", "/l1"))
		if n < mostHops {
			leads(t, l, "/more", "/a/f", kindFile)
		} else {
			leadsNowhere(t, l, "/more", errHops)
		}
	}
}

// R1, R2: nil and empty lists are the same; beside an error stands nothing, and beside false no node.
func TestNilAndEmpty(t *testing.T) {
	for _, p := range slices.Concat([]string{"/", "/a", "/..", "//"}, wrongPaths()) {
		follows(t, nil, p)
		follows(t, []api.Node{}, p)
		follows(t, make([]api.Node, 0, 8), p)
	}
}

// R3: a list stays as it is, also its room behind its end, whatever is asked.
func TestListsStayAsTheyAre(t *testing.T) {
	room := []api.Node{dir("/a"), file("/a/f"), link("/l", "a/../a"), link("/o", "/o"), dir("/a"), file("/x/y")}
	was := slices.Clone(room)
	for n := range len(room) + 1 {
		l := room[:n]
		for _, p := range []string{"/", "/a", "/l/f", "/o", "/x", "", "/l/../l/f"} {
			Check(l)
			Find(l, p)
			Resolve(l, p)
		}
		if !slices.Equal(room, was) {
			t.Fatalf("%s became %s", shown(was...), shown(room...))
		}
	}
}

// bytesOf is a text that shares a slice's bytes.
func bytesOf(b []byte) string { return unsafe.String(&b[0], len(b)) }

// R3: what is told shares nothing with what was handed in: the bytes of Paths, Targets and paths become others, and it stays.
func TestNothingIsShared(t *testing.T) {
	var all [][]byte
	text := func(s string) string {
		b := []byte(s)
		all = append(all, b)
		return bytesOf(b)
	}
	l := []api.Node{dir(text("/a")), file(text("/a/f")), link(text("/l"), text("/a/f")), link(text("/m"), text("a"))}
	found, _ := Find(l, text("/a/f"))
	linked, _ := Find(l, text("/l"))
	top, _ := Find(l, text("/"))
	var led []string
	for _, p := range []string{"/a", "/a/f", "/l", "/m", "/m/f", "/", "/a/..", "/m/.."} {
		s, _, wrong := Resolve(l, text(p))
		if wrong != 0 {
			t.Fatal(p, wrong)
		}
		led = append(led, s)
	}
	for _, b := range all {
		for i := range b {
			b[i] = '#'
		}
	}
	if found != file("/a/f") || linked != link("/l", "/a/f") || top != dir("/") {
		t.Error(shown(found, linked, top))
	}
	if !slices.Equal(led, []string{"/a", "/a/f", "/a/f", "/a", "/a/f", "/", "/", "/"}) {
		t.Errorf("%q", led)
	}
}

// R3: nothing of a list is kept: another one that is asked next, or the same one when it was changed, is asked as it is.
func TestNothingIsKept(t *testing.T) {
	l := []api.Node{dir("/a"), file("/a/f"), link("/l", "/a")}
	leads(t, l, "/l/f", "/a/f", kindFile)
	l[2].Target = "/a/f"
	leads(t, l, "/l", "/a/f", kindFile)
	leadsNowhere(t, l, "/l/f", errDir)
	l[1].Kind = kindDir
	leadsNowhere(t, l, "/l/f", errNone)
	l[0].Path = "/b"
	checks(t, l, errNone, 1)
	leadsNowhere(t, l, "/l", errNone)
	findsNone(t, l, "/a")
	finds(t, l, "/b", dir("/b"))
	leadsNowhere(t, nil, "/l", errNone)
}

// R4: the same arguments, the same answers, whatever was asked between, and whatever the order of a map is.
func TestTheSameAgain(t *testing.T) {
	r := rand.New(rand.NewSource(5))
	type asked struct {
		l []api.Node
		p string
	}
	var all []asked
	for range 300 {
		l := scatteredTree(r, 12)
		for range 5 {
			all = append(all, asked{l, "/" + scatteredText(r)})
		}
	}
	for range 4 {
		r.Shuffle(len(all), func(i, j int) { all[i], all[j] = all[j], all[i] })
		for _, one := range all {
			follows(t, one.l, one.p)
		}
	}
}

// R4: nodes stand in any order that has each one behind what it stands in: that changes nothing of where paths lead.
func TestOrderOfNodesDoesNotMatter(t *testing.T) {
	l := []api.Node{dir("/a"), dir("/b"), link("/l", "a/../b/m"), file("/f"), file("/a/f"), link("/b/m", "../a"), link("/o", "o"), dir("/b/c")}
	paths := pieces(3, "/a", "/b", "/l", "/m", "/f", "/o", "/c", "/..")
	r := rand.New(rand.NewSource(6))
	for range 20 {
		other := slices.Clone(l)
		r.Shuffle(4, func(i, j int) { other[i], other[j] = other[j], other[i] })
		r.Shuffle(4, func(i, j int) { other[4+i], other[4+j] = other[4+j], other[4+i] })
		holds(t, other)
		for _, p := range paths[1:] {
			want := slowResolve(l, p)
			if s, k, wrong := Resolve(other, p); s != want.path || k != want.kind || wrong != want.wrong {
				t.Errorf("Resolve(%s, %q): %q, %d, %d, not %v", shown(other...), p, s, k, wrong, want)
			}
		}
	}
}

// P0: calls of long texts, of many nodes and of all bytes end, and tell what may not be.
func TestAllCallsEnd(t *testing.T) {
	long := strings.Repeat("/a", 1<<19)
	many := make([]api.Node, 1<<18)
	checks(t, many, errLong, mostNodes)
	findsNone(t, many, "/a")
	leadsNowhere(t, many, "/", errLong)
	for _, node := range []api.Node{dir(long), file(long[1:]), link("/l", long), link(long, long), {Path: long, Kind: math.MinInt, Target: long}} {
		checks(t, []api.Node{node}, errArg, 0)
		finds(t, []api.Node{node}, node.Path, node)
		leadsNowhere(t, []api.Node{node}, long, errArg)
	}
	leadsNowhere(t, nil, long, errArg)
	r := rand.New(rand.NewSource(7))
	text := func(n int) string {
		b := make([]byte, r.Intn(n))
		for i := range b {
			b[i] = "/./ab\x00\xff"[r.Intn(7)]
		}
		return string(b)
	}
	for range 5000 {
		var l []api.Node
		for range r.Intn(5) {
			l = append(l, api.Node{Path: "/" + text(4), Kind: r.Intn(5), Target: text(300)})
		}
		follows(t, l, "/"+text(300))
		follows(t, l, text(10))
		follows(t, slices.DeleteFunc(l, slowWrong), "/"+text(8))
	}
}
