package tree

import (
	"iter"
	"math"
	"slices"
	"testing"
	"unsafe"

	"fairlead/api"
)

// The document's numbers, written out.
const (
	wrongArg  = 1
	wrongLong = 4

	most     = 4096
	deepest  = 62
	greatest = math.MaxUint32
)

// part is one of a list: from a place on, up to ahead of another one.
type part struct{ from, to int }

// all are the parts that a function hands out.
func all(seq iter.Seq2[int, int]) []part {
	var l []part
	for from, to := range seq {
		l = append(l, part{from, to})
	}
	return l
}

// first are those of them that are handed out till it is told to stop, which is at the part of this number, from 1 on.
func first(n int, seq iter.Seq2[int, int]) []part {
	var l []part
	for from, to := range seq {
		l = append(l, part{from, to})
		if len(l) == n {
			break
		}
	}
	return l
}

// rising are so many numbers from one on, each so much above the last.
func rising(n int, from, step uint32) []uint32 {
	var l []uint32
	for range n {
		l = append(l, from)
		from += step
	}
	return l
}

// sizes are the small ones, the powers of two that lists may have, and those just below and above them.
func sizes() []int {
	var l []int
	for n := range 70 {
		l = append(l, n)
	}
	for n := 128; n < most; n *= 2 {
		l = append(l, n-1, n, n+1)
	}
	return append(l, 100, 1000, 3000, most-1, most)
}

// halves are those of a part, as the document's words have them.
func halves(p part) (part, part) {
	places := p.to - p.from
	half := 0
	for 2*(half+1) <= places {
		half++
	}
	return part{p.from, p.from + half}, part{p.from + half, p.to}
}

// slowWithin are a part, and all within, as the words of P13.1 have them.
func slowWithin(p part) []part {
	l := []part{p}
	if p.to-p.from >= 2 {
		one, two := halves(p)
		l = append(l, slowWithin(one)...)
		l = append(l, slowWithin(two)...)
	}
	return l
}

func slowWalk(size int) []part {
	if size < 1 {
		return nil
	}
	return slowWithin(part{0, size})
}

// slowWrong follows the words of P13.2: numbers rise that, sorted and each taken once, are the same list.
func slowWrong(l []uint32) api.Errno {
	if len(l) > most {
		return wrongLong
	}
	if !slices.Equal(l, slices.Compact(slices.Sorted(slices.Values(l)))) {
		return wrongArg
	}
	return 0
}

func slowBuild(l []uint32) ([]int, api.Errno) {
	if wrong := slowWrong(l); wrong != 0 {
		return nil, wrong
	}
	var places []int
	for _, p := range slowWalk(len(l)) {
		if p.to-p.from >= 2 {
			_, two := halves(p)
			places = append(places, two.from)
		}
	}
	return places, 0
}

// slowPath follows the words of P13.3.
func slowPath(l []uint32, n uint32) []int {
	if slowWrong(l) != 0 || len(l) == 0 {
		return nil
	}
	return slowSearch(l, n, part{0, len(l)})
}

func slowSearch(l []uint32, n uint32, p part) []int {
	if p.to-p.from < 2 {
		return []int{p.from}
	}
	one, two := halves(p)
	if l[two.from] <= n {
		return append([]int{two.from}, slowSearch(l, n, two)...)
	}
	return append([]int{two.from}, slowSearch(l, n, one)...)
}

// slowPlace is that of the greatest number that is at most n, or 0: all are asked.
func slowPlace(l []uint32, n uint32) int {
	place := 0
	for i, m := range l {
		if m <= n {
			place = i
		}
	}
	return place
}

// slowDeep follows the words of P13.4.
func slowDeep(size int) int {
	if size < 2 {
		return 0
	}
	for k := range 63 {
		if uint64(1)<<k >= uint64(size) {
			return k
		}
	}
	return deepest
}

// walks fails if other parts than these are handed out.
func walks(t *testing.T, want []part, size int) {
	t.Helper()
	if l := all(Walk(size)); !slices.Equal(l, want) {
		t.Errorf("Walk(%d): %.200v, not %.200v", size, l, want)
	}
}

// builds fails if Build does not tell these places.
func builds(t *testing.T, want []int, l ...uint32) {
	t.Helper()
	if places, wrong := Build(l); !slices.Equal(places, want) || wrong != 0 {
		t.Errorf("Build(%.20v..): %.20v, %d: not %.20v", l, places, wrong, want)
	}
}

// refuses fails if Build does not tell this error and nothing beside it, or if Path tells a place of the list.
func refuses(t *testing.T, want api.Errno, l ...uint32) {
	t.Helper()
	if places, wrong := Build(l); len(places) != 0 || wrong != want {
		t.Errorf("Build(%d numbers): %d places, %d: not %d", len(l), len(places), wrong, want)
	}
	asked := []uint32{0, 1, greatest}
	for _, i := range []int{0, 1, len(l) / 2, len(l) - 2, len(l) - 1} {
		if i >= 0 && i < len(l) {
			asked = append(asked, l[i])
		}
	}
	for _, n := range asked {
		if places := Path(l, n); len(places) != 0 {
			t.Errorf("Path(%d numbers, %d): %v", len(l), n, places)
		}
	}
}

// passes fails if Path does not tell these places.
func passes(t *testing.T, want []int, l []uint32, n uint32) {
	t.Helper()
	if places := Path(l, n); !slices.Equal(places, want) {
		t.Errorf("Path(%d numbers, %d): %v, not %v", len(l), n, places, want)
	}
}

// asked are the numbers worth looking for in a list: all that stand in it, those beside them, and the ends.
func asked(l []uint32) []uint32 {
	numbers := []uint32{0, 1, greatest - 1, greatest}
	for _, n := range l {
		numbers = append(numbers, n-1, n, n+1)
	}
	return numbers
}

// chance is a row of numbers that look scattered, and are the same at each run of the tests.
type chance uint64

func (c *chance) below(n int) int {
	*c += 0x9e3779b97f4a7c15
	z := uint64(*c)
	z = (z ^ z>>30) * 0xbf58476d1ce4e5b9
	z = (z ^ z>>27) * 0x94d049bb133111eb
	return int((z ^ z>>31) % uint64(n))
}

// list is one of so many numbers that rise: close together, or all over what there is.
func (c *chance) list(n int) []uint32 {
	gap := 1 + c.below(max(1, greatest/(n+1)))
	if c.below(3) == 0 {
		gap = 2
	}
	next := c.below(gap)
	var l []uint32
	for range n {
		l = append(l, uint32(next))
		next += 1 + c.below(gap)
	}
	if n > 0 && c.below(4) == 0 {
		l[n-1] = greatest
	}
	return l
}

// The numbers that api gives the errors.
func TestNumbersAreNamed(t *testing.T) {
	if api.OK != 0 || api.ErrArg != wrongArg || api.ErrLong != wrongLong {
		t.Error("errors")
	}
}

// The chapter's examples.
func TestExamples(t *testing.T) {
	walks(t, []part{{0, 3}, {0, 1}, {1, 3}, {1, 2}, {2, 3}}, 3)
	builds(t, []int{1, 2}, 5, 7, 9)
	passes(t, []int{1, 2, 1}, []uint32{5, 7, 9}, 8)
	if k := Deep(5); k != 3 {
		t.Error(k)
	}
}

// P13.1: nothing of sizes below 1; of 1 the one part there is; a part of two or more is halved, the first half never being
// the longer one.
func TestWalkHandsOutParts(t *testing.T) {
	for _, size := range []int{0, -1, -2, -3, -4096, math.MinInt + 1, math.MinInt} {
		walks(t, nil, size)
	}
	walks(t, []part{{0, 1}}, 1)
	walks(t, []part{{0, 2}, {0, 1}, {1, 2}}, 2)
	walks(t, []part{{0, 4}, {0, 2}, {0, 1}, {1, 2}, {2, 4}, {2, 3}, {3, 4}}, 4)
	walks(t, []part{{0, 5}, {0, 2}, {0, 1}, {1, 2}, {2, 5}, {2, 3}, {3, 5}, {3, 4}, {4, 5}}, 5)
	walks(t, []part{{0, 6}, {0, 3}, {0, 1}, {1, 3}, {1, 2}, {2, 3}, {3, 6}, {3, 4}, {4, 6}, {4, 5}, {5, 6}}, 6)
	walks(t, []part{{0, 7}, {0, 3}, {0, 1}, {1, 3}, {1, 2}, {2, 3}, {3, 7}, {3, 5}, {3, 4}, {4, 5}, {5, 7}, {5, 6}, {6, 7}}, 7)
}

// P13.1: as its words have it, of even and odd sizes, of powers of two and those beside them; Walk has no greatest size, as
// Build has.
func TestWalkFollowsTheWords(t *testing.T) {
	for _, size := range append(sizes(), most+1, 2*most-1, 2*most, 2*most+1, 100000) {
		walks(t, slowWalk(size), size)
	}
}

// P13.1: behind the part at which it is told to stop, nothing is handed out, wherever that is.
func TestWalkStopsWhenTold(t *testing.T) {
	for size := 1; size <= 40; size++ {
		whole := slowWalk(size)
		for n := 1; n <= len(whole); n++ {
			if l := first(n, Walk(size)); !slices.Equal(l, whole[:n]) {
				t.Errorf("Walk(%d), stopped at %d: %v", size, n, l)
			}
			calls := 0
			Walk(size)(func(from, to int) bool {
				if calls++; calls > n || whole[calls-1] != (part{from, to}) {
					t.Errorf("Walk(%d), stopped at %d: %d %d", size, n, from, to)
				}
				return calls < n
			})
			if calls != n {
				t.Errorf("Walk(%d), stopped at %d: called %d times", size, n, calls)
			}
		}
	}
	Walk(0)(func(from, to int) bool {
		t.Error(from, to)
		return false
	})
}

// P13.1: it hands out part by part, and so stops of sizes too that nobody could go through; no place is told wrong there.
func TestWalkOfGreatSizes(t *testing.T) {
	for _, size := range []int{math.MaxInt, math.MaxInt - 1, 1 << 62, 1<<62 + 1, 1<<62 - 1, 1 << 40, 3 << 50} {
		var want []part
		for to := size; to > 1; to /= 2 {
			want = append(want, part{0, to})
		}
		want = append(want, part{0, 1})
		if l := first(len(want), Walk(size)); !slices.Equal(l, want) {
			t.Errorf("Walk(%d): %v", size, l)
		}
		// The first parts' second halves follow, each within the one that it ends.
		ends := want[0]
		for i, p := range first(2000, Walk(size)) {
			if p.from < 0 || p.to <= p.from || p.to > ends.to {
				t.Fatalf("Walk(%d), %d: %v", size, i, p)
			}
		}
	}
}

// P13.1: what Walk answers may be ranged over again, and within itself: each time it begins at the first part.
func TestWalkMayBeRangedOverAgain(t *testing.T) {
	for _, size := range []int{0, 1, 2, 3, 9, 16} {
		whole := slowWalk(size)
		parts := Walk(size)
		first(4, parts)
		for range 2 {
			if l := all(parts); !slices.Equal(l, whole) {
				t.Errorf("Walk(%d) again: %v", size, l)
			}
		}
		var outer []part
		for from, to := range parts {
			outer = append(outer, part{from, to})
			if l := all(parts); !slices.Equal(l, whole) {
				t.Errorf("Walk(%d) within itself: %v", size, l)
			}
		}
		if !slices.Equal(outer, whole) {
			t.Errorf("Walk(%d) about itself: %v", size, outer)
		}
	}
}

// P13.1: a loop over parts may be left from within another one.
func TestWalkIsLeftByALabel(t *testing.T) {
	count := 0
outer:
	for a := range Walk(9) {
		for _, b := range Walk(9) {
			if count++; a == 2 && b == 4 {
				break outer
			}
			if b == 1 {
				continue outer
			}
		}
	}
	if want := 5*4 + 2; count != want {
		t.Errorf("%d, not %d", count, want)
	}
}

// P13.2: the middles, in Walk's order: of no number and of one there are none.
func TestBuildTellsMiddles(t *testing.T) {
	builds(t, nil)
	builds(t, nil, 0)
	builds(t, nil, 7)
	builds(t, nil, greatest)
	builds(t, []int{1}, 0, 1)
	builds(t, []int{1}, 0, greatest)
	builds(t, []int{1}, greatest-1, greatest)
	builds(t, []int{1, 2}, 0, 1<<31, greatest)
	builds(t, []int{2, 1, 3}, 1, 2, 3, 4)
	builds(t, []int{2, 1, 3, 4}, 1, 2, 3, 4, 5)
	builds(t, []int{3, 1, 2, 4, 5}, 0, 10, 20, 30, 40, 50)
	builds(t, []int{3, 1, 2, 5, 4, 6}, 0, 1, 2, 3, 1<<31-1, 1<<31, greatest)
	for _, size := range sizes() {
		l := rising(size, 0, 1)
		want, _ := slowBuild(l)
		builds(t, want, l...)
		builds(t, want, rising(size, 5, 1<<20-1)...)
	}
}

// P13.2: 4096 numbers are told, 4097 are ErrLong, whether they rise or not: that is named first.
func TestBuildOfLongLists(t *testing.T) {
	for _, l := range [][]uint32{rising(most, 0, 1), rising(most, greatest-most+1, 1), rising(most, 3, 1<<20)} {
		want, _ := slowBuild(l)
		if len(want) != most-1 {
			t.Fatal(len(want))
		}
		builds(t, want, l...)
	}
	refuses(t, wrongLong, rising(most+1, 0, 1)...)
	refuses(t, wrongLong, rising(most+1, 7, 1<<19)...)
	refuses(t, wrongLong, rising(2*most, 0, 1)...)
	refuses(t, wrongLong, rising(100000, 0, 3)...)
	refuses(t, wrongLong, rising(most+1, 5, 0)...)
	refuses(t, wrongLong, rising(most+1, greatest, greatest)...)
	refuses(t, wrongLong, append(rising(most, 1, 1), 0)...)
	refuses(t, wrongArg, append(rising(most-1, 1, 1), 0)...)
	refuses(t, wrongArg, rising(most, 5, 0)...)
	refuses(t, wrongArg, rising(most, greatest, greatest)...)
}

// P13.2: ErrArg of lists that do not rise: at their beginning, in the middle and at their end; two like numbers do not.
func TestBuildOfListsThatDoNotRise(t *testing.T) {
	refuses(t, wrongArg, 0, 0)
	refuses(t, wrongArg, 5, 5)
	refuses(t, wrongArg, greatest, greatest)
	refuses(t, wrongArg, greatest, 0)
	refuses(t, wrongArg, 1, 0)
	refuses(t, wrongArg, 2, 1, 3)
	refuses(t, wrongArg, 1, 3, 2)
	refuses(t, wrongArg, 3, 2, 1)
	refuses(t, wrongArg, 1, 1, 2)
	refuses(t, wrongArg, 1, 2, 2)
	refuses(t, wrongArg, 0, 1<<31, 1<<31-1)
	refuses(t, wrongArg, 1<<31, 1<<31, greatest)
	for _, size := range []int{2, 3, 4, 5, 8, 31, 64, 100, most - 1, most} {
		for _, i := range []int{1, 2, 3, size / 2, size/2 + 1, size - 2, size - 1} {
			if i < 1 || i >= size {
				continue
			}
			like := rising(size, 1, 2)
			like[i] = like[i-1]
			refuses(t, wrongArg, like...)
			less := rising(size, 1, 2)
			less[i], less[i-1] = less[i-1], less[i]
			refuses(t, wrongArg, less...)
			nought := rising(size, 0, 2)
			nought[i] = 0
			refuses(t, wrongArg, nought...)
			if i < size-1 {
				high := rising(size, 0, 2)
				high[i] = greatest
				refuses(t, wrongArg, high...)
			}
		}
	}
}

// P13.3: the places of numbers that stand in a list, between two of them, below the first and above the last.
func TestPathTellsPlaces(t *testing.T) {
	l := []uint32{5, 7, 9}
	for n, want := range [][]int{{1, 0}, {1, 0}, {1, 0}, {1, 0}, {1, 0}, {1, 0}, {1, 0}, {1, 2, 1}, {1, 2, 1}, {1, 2, 2}, {1, 2, 2}} {
		passes(t, want, l, uint32(n))
	}
	passes(t, []int{1, 2, 2}, l, greatest)

	four := []uint32{0, 1 << 31, greatest - 1, greatest}
	passes(t, []int{2, 1, 0}, four, 0)
	passes(t, []int{2, 1, 0}, four, 1)
	passes(t, []int{2, 1, 0}, four, 1<<31-1)
	passes(t, []int{2, 1, 1}, four, 1<<31)
	passes(t, []int{2, 1, 1}, four, greatest-2)
	passes(t, []int{2, 3, 2}, four, greatest-1)
	passes(t, []int{2, 3, 3}, four, greatest)

	seven := rising(7, 10, 10)
	for i, want := range [][]int{{3, 1, 0}, {3, 1, 2, 1}, {3, 1, 2, 2}, {3, 5, 4, 3}, {3, 5, 4, 4}, {3, 5, 6, 5}, {3, 5, 6, 6}} {
		passes(t, want, seven, seven[i])
		passes(t, want, seven, seven[i]+1)
		passes(t, want, seven, seven[i]+9)
	}
	passes(t, []int{3, 1, 0}, seven, 9)
	passes(t, []int{3, 1, 0}, seven, 0)
}

// P13.3: of one number its place alone, whatever is looked for; of two the middle, and one of both.
func TestPathOfFewNumbers(t *testing.T) {
	for _, m := range []uint32{0, 1, 5, 1 << 31, greatest} {
		for _, n := range []uint32{0, 4, 5, 6, 1 << 31, greatest} {
			passes(t, []int{0}, []uint32{m}, n)
		}
	}
	for n, want := range [][]int{{1, 0}, {1, 0}, {1, 0}, {1, 0}, {1, 1}, {1, 1}} {
		passes(t, want, []uint32{2, 4}, uint32(n))
	}
	passes(t, []int{1, 1}, []uint32{0, greatest}, greatest)
	passes(t, []int{1, 0}, []uint32{0, greatest}, greatest-1)
}

// P13.3: nothing of an empty list, of more than 4096 numbers, and of those that do not rise.
func TestPathOfNoSuchList(t *testing.T) {
	for _, n := range []uint32{0, 1, greatest} {
		passes(t, nil, nil, n)
		passes(t, nil, []uint32{}, n)
		passes(t, nil, []uint32{5, 5}, n)
		passes(t, nil, []uint32{5, 7, 6}, n)
		passes(t, nil, []uint32{7, 6, 8}, n)
		passes(t, nil, []uint32{1, 2, 3, 4, 6, 5}, n)
		passes(t, nil, rising(most+1, 0, 1), n)
		passes(t, nil, append(rising(most, 0, 1), 0), n)
		passes(t, nil, append(rising(most-1, 0, 1), 0), n)
	}
}

// P13.3: as its words have it: every number of small lists and those beside them, and of the longest list there may be.
func TestPathFollowsTheWords(t *testing.T) {
	for size := 1; size <= 40; size++ {
		for _, l := range [][]uint32{rising(size, 0, 1), rising(size, 3, 3), rising(size, greatest-uint32(size)+1, 1)} {
			for _, n := range asked(l) {
				passes(t, slowPath(l, n), l, n)
			}
		}
	}
	l := rising(most, 6, 1<<20-1)
	for i := 0; i < most; i += 97 {
		for _, n := range []uint32{l[i] - 1, l[i], l[i] + 1} {
			passes(t, slowPath(l, n), l, n)
		}
	}
	for _, n := range []uint32{0, l[0] - 1, l[most/2], l[most-1] - 1, l[most-1], l[most-1] + 1, greatest} {
		passes(t, slowPath(l, n), l, n)
	}
}

// P13.4: the least k of which 2^k is at least size, at each power of two and beside it; 0 and 62 at the ends.
func TestDeep(t *testing.T) {
	tell := func(want, size int) {
		t.Helper()
		if k := Deep(size); k != want {
			t.Errorf("Deep(%d): %d, not %d", size, k, want)
		}
	}
	for _, size := range []int{1, 0, -1, -2, -4, -4096, -1 << 62, math.MinInt32, math.MinInt + 1, math.MinInt} {
		tell(0, size)
	}
	for size, want := range []int{0, 0, 1, 2, 2, 3, 3, 3, 3, 4, 4, 4, 4, 4, 4, 4, 4, 5} {
		tell(want, size)
	}
	for k := 1; k <= 62; k++ {
		size := 1 << k
		tell(k, size)
		tell(slowDeep(size-1), size-1)
		tell(min(k+1, deepest), size+1)
		tell(min(k+1, deepest), size+size/2+1)
	}
	tell(12, most)
	tell(13, most+1)
	for _, size := range []int{1<<62 + 1, 1<<62 + 2, 1<<62 + 1<<61, math.MaxInt - 1, math.MaxInt} {
		tell(62, size)
	}
	for size := -100; size <= 10000; size++ {
		tell(slowDeep(size), size)
	}
	c := chance(4)
	for range 20000 {
		size := c.below(math.MaxInt) >> c.below(63)
		tell(slowDeep(size), size)
		tell(0, -size)
	}
}

// theorem asks what P13.5 says of a list that rises, and of a number.
func theorem(t *testing.T, l []uint32, n uint32) {
	t.Helper()
	places := Path(l, n)
	if len(places) == 0 {
		t.Fatalf("Path(%d numbers, %d): nothing", len(l), n)
	}
	if last := places[len(places)-1]; last != slowPlace(l, n) {
		t.Errorf("Path(%d numbers, %d) ends at %d, not at %d", len(l), n, last, slowPlace(l, n))
	}
	if len(places) > slowDeep(len(l))+1 {
		t.Errorf("Path(%d numbers, %d): %d places", len(l), n, len(places))
	}
}

// P13.5: the last place of Path is that of the greatest number that is at most the one that is looked for, or 0; there are
// at most Deep of the size and 1 places; and as many as that there are somewhere.
func TestPathEndsWhereTheNumberStands(t *testing.T) {
	for _, size := range sizes() {
		if size == 0 {
			continue
		}
		step := max(1, size/60)
		passed := 0
		for _, l := range [][]uint32{rising(size, 0, 2), rising(size, 9, 1<<20-3), rising(size, greatest-uint32(size)+1, 1)} {
			for _, n := range []uint32{0, 1, l[0] - 1, l[0], l[size/2], l[size-1], l[size-1] + 1, greatest} {
				theorem(t, l, n)
			}
			for i := 0; i < size; i += step {
				theorem(t, l, l[i]-1)
				theorem(t, l, l[i])
				theorem(t, l, l[i]+1)
			}
			passed = max(passed, len(Path(l, greatest)))
		}
		if passed != Deep(size)+1 {
			t.Errorf("the last of %d numbers is reached by %d places", size, passed)
		}
	}
}

// P13.5: Build tells each place but 0 once; each place that Path passes ahead of the last one is among them, in their order.
func TestBuildTellsEachPlaceOnce(t *testing.T) {
	for _, size := range sizes() {
		l := rising(size, 1, 3)
		places, wrong := Build(l)
		if wrong != 0 {
			t.Fatal(size, wrong)
		}
		sorted := slices.Sorted(slices.Values(places))
		if len(sorted) != max(0, size-1) {
			t.Errorf("%d places of %d", len(sorted), size)
		}
		for i, at := range sorted {
			if at != i+1 {
				t.Fatalf("place %d of %d", at, size)
			}
		}
		if size == 0 {
			continue
		}
		path := Path(l, l[size/3])
		next := 0
		for _, at := range places {
			if next < len(path)-1 && at == path[next] {
				next++
			}
		}
		if next != len(path)-1 {
			t.Errorf("%v is not along %.60v", path, places)
		}
	}
}

// P13.1: each part of one place is handed out once, rising; there are as many parts as places, doubled, less one; none is
// halved more often than Deep tells.
func TestWalkReachesEachPlace(t *testing.T) {
	for _, size := range append(sizes()[1:], 50000, 1<<16, 1<<16+1) {
		count, next := 0, 0
		for from, to := range Walk(size) {
			count++
			if to-from == 1 {
				if from != next {
					t.Fatalf("Walk(%d): %d, not %d", size, from, next)
				}
				next++
			}
		}
		if next != size || count != 2*size-1 {
			t.Errorf("Walk(%d): %d parts, %d places", size, count, next)
		}
	}
}

// P0, P13.2, P13.3, P13.5: scattered lists, most of which rise, and some of which are spoilt at one place.
func TestScatteredLists(t *testing.T) {
	c := chance(1)
	told := map[api.Errno]int{}
	for range 6000 {
		size := c.below([]int{2, 4, 12, 60, 300}[c.below(5)])
		if c.below(200) == 0 {
			size = most - 1 + c.below(4)
		}
		l := c.list(size)
		if size > 1 && c.below(3) == 0 {
			l[c.below(size)] = []uint32{0, greatest, l[c.below(size)], uint32(c.below(1 << 32))}[c.below(4)]
		}
		want, wrong := slowBuild(l)
		if places, e := Build(l); !slices.Equal(places, want) || e != wrong {
			t.Fatalf("Build(%.60v): %.60v, %d: not %d", l, places, e, wrong)
		}
		told[wrong]++
		numbers := []uint32{0, greatest, uint32(c.below(1 << 32))}
		if size > 0 {
			n := l[c.below(size)]
			numbers = append(numbers, n, n-1, n+1)
		}
		for _, n := range numbers {
			passes(t, slowPath(l, n), l, n)
			if wrong == 0 && size > 0 {
				theorem(t, l, n)
			}
		}
	}
	for _, wrong := range []api.Errno{0, wrongArg, wrongLong} {
		if told[wrong] < 5 {
			t.Errorf("the error %d was told %d times", wrong, told[wrong])
		}
	}
}

// P0: every size, of which some parts are taken.
func TestScatteredSizes(t *testing.T) {
	c := chance(2)
	for range 3000 {
		size := (c.below(math.MaxInt) - math.MaxInt/4) >> c.below(63)
		n := 1 + c.below(300)
		l := first(n, Walk(size))
		if want := min(n, max(0, 2*min(size, n)-1)); len(l) != want {
			t.Errorf("Walk(%d): %d parts, not %d", size, len(l), want)
		}
		if size > 0 && size < 2000 && !slices.Equal(l, slowWalk(size)[:len(l)]) {
			t.Errorf("Walk(%d): %v", size, l)
		}
	}
}

// R2: nil and empty lists are the same.
func TestNilAndEmpty(t *testing.T) {
	for _, l := range [][]uint32{nil, {}, rising(9, 1, 1)[:0]} {
		builds(t, nil, l...)
		passes(t, nil, l, 3)
	}
}

// R3: what is handed in stays as it is, its room behind its end too; what is told is the caller's own.
func TestNothingIsChangedOrShared(t *testing.T) {
	room := rising(40, 2, 5)
	kept := slices.Clone(room)
	for _, l := range [][]uint32{room[:0], room[:1], room[:9], room[3:20], room, slices.Clone(room)} {
		places, _ := Build(l)
		passed := Path(l, 33)
		clear(places)
		clear(passed)
		if !slices.Equal(room, kept) {
			t.Fatal("the list was changed")
		}
		want, _ := slowBuild(l)
		builds(t, want, l...)
		passes(t, slowPath(l, 33), l, 33)
	}
	one, _ := Build(room)
	two, _ := Build(room)
	if unsafe.SliceData(one) == unsafe.SliceData(two) {
		t.Error("two answers of Build are one")
	}
	if unsafe.SliceData(Path(room, 1)) == unsafe.SliceData(Path(room, 1)) {
		t.Error("two answers of Path are one")
	}
	wrong := []uint32{3, 1, 2}
	refuses(t, wrongArg, wrong...)
	if !slices.Equal(wrong, []uint32{3, 1, 2}) {
		t.Error("a list that does not rise was changed")
	}
	long := rising(most+1, 1, 1)
	refuses(t, wrongLong, long...)
	if !slices.Equal(long, rising(most+1, 1, 1)) {
		t.Error("a list that is too long was changed")
	}
}

// R3: what Walk answers keeps no list, and Build and Path keep none either: a list that is changed is asked as it is now.
func TestNothingIsKept(t *testing.T) {
	l := []uint32{5, 7, 9}
	builds(t, []int{1, 2}, l...)
	passes(t, []int{1, 2, 1}, l, 8)
	l[1] = 5
	refuses(t, wrongArg, l...)
	l[1] = 8
	builds(t, []int{1, 2}, l...)
	passes(t, []int{1, 0}, l, 7)
	l[0], l[1], l[2] = 1, 2, 3
	passes(t, []int{1, 2, 2}, l, 8)
}

// R4: the same arguments, the same answers, whatever was asked between.
func TestTheSameAgain(t *testing.T) {
	l := rising(100, 4, 4)
	places, _ := Build(l)
	path, parts := Path(l, 77), all(Walk(100))
	for i := range 20 {
		refuses(t, wrongArg, 5, 5)
		refuses(t, wrongLong, rising(most+1, 0, 1)...)
		first(i+1, Walk(77))
		Deep(i)
		builds(t, places, l...)
		passes(t, path, l, 77)
		walks(t, parts, 100)
	}
}
