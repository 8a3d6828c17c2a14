package pagerun_test

import (
	"math"
	"slices"
	"testing"

	"steading/api"
	"steading/pagerun"
	"steading/runs"
)

// list is runs by pairs: where each begins, and how many pages it has.
func list(pairs ...int) []api.Run {
	var l []api.Run
	for i := 0; i < len(pairs); i += 2 {
		l = append(l, api.Run{Page: pairs[i], Pages: pairs[i+1]})
	}
	return l
}

// plain is the pages one by one, and what was ticked: what an Alloc is held against.
type plain struct {
	free  []bool
	ticks int
}

func newPlain(pages int) *plain {
	return &plain{free: slices.Repeat([]bool{true}, pages)}
}

// runs are the free pages that lie beside each other.
func (m *plain) runs() []api.Run {
	var l []api.Run
	for page, free := range m.free {
		if !free {
			continue
		}
		if page > 0 && m.free[page-1] {
			l[len(l)-1].Pages++
		} else {
			l = append(l, api.Run{Page: page, Pages: 1})
		}
	}
	return l
}

func (m *plain) count() int {
	n := 0
	for _, free := range m.free {
		if free {
			n++
		}
	}
	return n
}

func (m *plain) longest() int {
	n := 0
	for _, r := range m.runs() {
		if r.Pages > n {
			n = r.Pages
		}
	}
	return n
}

// mark makes pages free, or not, and ticks for it.
func (m *plain) mark(page, n int, free bool) {
	m.ticks += 1 + len(m.runs())
	for i := page; i < page+n; i++ {
		m.free[i] = free
	}
}

func (m *plain) take(n int) (int, api.Errno) {
	if n < 1 {
		return 0, api.ErrArg
	}
	// The lengths, from the least one on, and of each the first run.
	for length := n; length <= len(m.free); length++ {
		for _, r := range m.runs() {
			if r.Pages == length {
				m.mark(r.Page, n, false)
				return r.Page, api.OK
			}
		}
	}
	return 0, api.ErrFull
}

func (m *plain) give(page, n int) api.Errno {
	if page < 0 || n < 1 || page > len(m.free) || n > len(m.free) || page+n > len(m.free) {
		return api.ErrArg
	}
	if slices.Contains(m.free[page:page+n], true) {
		return api.ErrArg
	}
	m.mark(page, n, true)
	return api.OK
}

// held fails, unless an Alloc tells so of itself.
func held(t *testing.T, a *pagerun.Alloc, pages, free, largest, ticks int, l []api.Run) {
	t.Helper()
	if a.Pages() != pages || a.Free() != free || a.Largest() != largest || a.Ticks() != ticks || !slices.Equal(a.Runs(), l) {
		t.Fatalf("Pages %d, Free %d, Largest %d, Ticks %d, Runs %v, want %d, %d, %d, %d, %v", a.Pages(), a.Free(), a.Largest(), a.Ticks(), a.Runs(), pages, free, largest, ticks, l)
	}
}

// same fails, unless an Alloc tells of itself what the plain one does.
func same(t *testing.T, a *pagerun.Alloc, m *plain) {
	t.Helper()
	held(t, a, len(m.free), m.count(), m.longest(), m.ticks, m.runs())
}

// took fails, unless a Take answers so.
func took(t *testing.T, a *pagerun.Alloc, n, page int, err api.Errno) {
	t.Helper()
	if gotPage, gotErr := a.Take(n); gotPage != page || gotErr != err {
		t.Fatalf("Take(%d) = %d, %v, want %d, %v", n, gotPage, gotErr, page, err)
	}
}

// gave fails, unless a Give answers so.
func gave(t *testing.T, a *pagerun.Alloc, page, n int, err api.Errno) {
	t.Helper()
	if got := a.Give(page, n); got != err {
		t.Fatalf("Give(%d, %d) = %v, want %v", page, n, got, err)
	}
}

// with is so many pages, of which just those of some runs are free; what was ticked till then is told too.
func with(t *testing.T, pages int, l ...api.Run) (*pagerun.Alloc, int) {
	t.Helper()
	a := pagerun.New(pages)
	took(t, a, pages, 0, api.OK)
	for _, r := range l {
		gave(t, a, r.Page, r.Pages, api.OK)
	}
	return a, a.Ticks()
}

// numbers are some around 0, and the greatest and the least ones, and their neighbours.
func numbers() []int {
	l := []int{math.MaxInt, math.MaxInt - 1, math.MaxInt - 5, 1 << 62, 1<<32 + 1, 1 << 32, 1<<31 - 1, api.MaxPages + 1, api.MaxPages}
	for _, n := range slices.Clone(l) {
		l = append(l, -n)
	}
	for n := -3; n <= 13; n++ {
		l = append(l, n)
	}
	return append(l, math.MinInt)
}

// dice are numbers that are the same each time.
func dice(seed uint64) func(below int) int {
	return func(below int) int {
		seed = seed*6364136223846793005 + 1442695040888963407
		return int(seed >> 33 % uint64(below))
	}
}

// P6.1

func TestNewIsOneFreeRun(t *testing.T) {
	for _, x := range [][2]int{
		{math.MinInt, 1}, {-math.MaxInt, 1}, {-1 << 32, 1}, {-2, 1}, {-1, 1}, {0, 1}, {1, 1}, {2, 2}, {3, 3}, {10, 10}, {4095, 4095}, {4096, 4096},
		{api.MaxPages - 1, api.MaxPages - 1}, {api.MaxPages, api.MaxPages}, {api.MaxPages + 1, api.MaxPages}, {2 * api.MaxPages, api.MaxPages}, {1<<32 + 5, api.MaxPages}, {math.MaxInt, api.MaxPages},
	} {
		held(t, pagerun.New(x[0]), x[1], x[1], x[1], 0, list(0, x[1]))
	}
}

func TestNewOnesAreApart(t *testing.T) {
	a, b := pagerun.New(5), pagerun.New(5)
	took(t, a, 2, 0, api.OK)
	held(t, b, 5, 5, 5, 0, list(0, 5))
	took(t, b, 5, 0, api.OK)
	held(t, a, 5, 3, 3, 2, list(2, 3))
}

func TestOfNoFreeRun(t *testing.T) {
	for _, pages := range []int{1, 2, 9, api.MaxPages} {
		a := pagerun.New(pages)
		took(t, a, pages, 0, api.OK)
		held(t, a, pages, 0, 0, 2, nil)
		if l := a.Runs(); len(l) != 0 {
			t.Errorf("runs %v of %d pages that are taken", l, pages)
		}
	}
}

func TestLargestWhereverItStands(t *testing.T) {
	for _, x := range []struct {
		l             []api.Run
		free, largest int
	}{
		{nil, 0, 0},
		{list(0, 1), 1, 1}, {list(19, 1), 1, 1}, {list(0, 20), 20, 20}, {list(3, 4), 4, 4},
		{list(0, 5, 7, 2, 12, 1), 8, 5}, {list(0, 2, 7, 4, 12, 1), 7, 4}, {list(0, 2, 7, 4, 12, 6), 12, 6},
		{list(0, 3, 7, 3, 12, 3), 9, 3}, {list(0, 1, 2, 1, 4, 1, 6, 1), 4, 1}, {list(0, 2, 3, 5, 9, 5, 15, 1), 13, 5},
	} {
		a, ticks := with(t, 20, x.l...)
		held(t, a, 20, x.free, x.largest, ticks, x.l)
	}
}

func TestRunsAreNewMemory(t *testing.T) {
	a, ticks := with(t, 20, list(0, 2, 4, 3, 9, 1)...)
	l, other := a.Runs(), a.Runs()
	for i := range l {
		l[i] = api.Run{Page: 17 + i, Pages: 99}
	}
	l = append(l[:1], list(1, 1, 2, 2, 3, 3)...)
	if !slices.Equal(other, list(0, 2, 4, 3, 9, 1)) {
		t.Errorf("two answers share memory: %v, %v", l, other)
	}
	held(t, a, 20, 6, 3, ticks, list(0, 2, 4, 3, 9, 1))

	// What is done to a list that was told ahead of a change doesn't come to be in what is behind it.
	ahead := a.Runs()
	took(t, a, 1, 9, api.OK)
	ahead[0], ahead[1] = api.Run{Page: 7, Pages: 7}, api.Run{}
	held(t, a, 20, 5, 3, ticks+4, list(0, 2, 4, 3))
	behind := a.Runs()
	gave(t, a, 2, 2, api.OK)
	if !slices.Equal(behind, list(0, 2, 4, 3)) {
		t.Errorf("a list that was told has changed: %v", behind)
	}
	behind[0].Pages = 1
	held(t, a, 20, 7, 7, ticks+4+3, list(0, 7))

	// Not even room behind a list's end is shared.
	short := a.Runs()
	_ = append(short, api.Run{Page: 12, Pages: 1})
	gave(t, a, 9, 1, api.OK)
	_ = append(short, api.Run{Page: 13, Pages: 1})
	held(t, a, 20, 8, 7, ticks+4+3+2, list(0, 7, 9, 1))
}

// P6.2

func TestTakeOfKnown(t *testing.T) {
	a := pagerun.New(8)
	took(t, a, 3, 0, api.OK)
	took(t, a, 2, 3, api.OK)
	gave(t, a, 0, 3, api.OK)
	// Two runs of 3, of which the first one is taken from.
	held(t, a, 8, 6, 3, 6, list(0, 3, 5, 3))
	took(t, a, 1, 0, api.OK)
	held(t, a, 8, 5, 3, 9, list(1, 2, 5, 3))
}

func TestTakeOfOnePage(t *testing.T) {
	a := pagerun.New(1)
	took(t, a, 2, 0, api.ErrFull)
	took(t, a, 1, 0, api.OK)
	held(t, a, 1, 0, 0, 2, nil)
	took(t, a, 1, 0, api.ErrFull)
	took(t, a, 0, 0, api.ErrArg)
	gave(t, a, 1, 1, api.ErrArg)
	gave(t, a, 0, 2, api.ErrArg)
	gave(t, a, 0, 1, api.OK)
	held(t, a, 1, 1, 1, 3, list(0, 1))
	gave(t, a, 0, 1, api.ErrArg)
}

func TestTakeOfAllPages(t *testing.T) {
	for _, pages := range []int{1, 2, 3, 64, 1000, api.MaxPages} {
		a := pagerun.New(pages)
		took(t, a, pages+1, 0, api.ErrFull)
		held(t, a, pages, pages, pages, 0, list(0, pages))
		took(t, a, pages, 0, api.OK)
		took(t, a, pages, 0, api.ErrFull)
		took(t, a, 1, 0, api.ErrFull)
		held(t, a, pages, 0, 0, 2, nil)
		gave(t, a, 0, pages+1, api.ErrArg)
		gave(t, a, 1, pages, api.ErrArg)
		gave(t, a, 0, pages, api.OK)
		held(t, a, pages, pages, pages, 3, list(0, pages))
	}
}

func TestTakeOfTheBestRun(t *testing.T) {
	l := list(0, 9, 10, 4, 20, 3, 30, 6, 40, 4)
	for _, x := range []struct {
		n, page int
		err     api.Errno
		left    []api.Run
	}{
		{1, 20, api.OK, list(0, 9, 10, 4, 21, 2, 30, 6, 40, 4)},
		{3, 20, api.OK, list(0, 9, 10, 4, 30, 6, 40, 4)},
		{4, 10, api.OK, list(0, 9, 20, 3, 30, 6, 40, 4)},
		{5, 30, api.OK, list(0, 9, 10, 4, 20, 3, 35, 1, 40, 4)},
		{6, 30, api.OK, list(0, 9, 10, 4, 20, 3, 40, 4)},
		{7, 0, api.OK, list(7, 2, 10, 4, 20, 3, 30, 6, 40, 4)},
		{9, 0, api.OK, list(10, 4, 20, 3, 30, 6, 40, 4)},
		// So many are free, but not one behind the other.
		{10, 0, api.ErrFull, l}, {26, 0, api.ErrFull, l}, {27, 0, api.ErrFull, l},
	} {
		a, ticks := with(t, 50, l...)
		took(t, a, x.n, x.page, x.err)
		if x.err == api.OK {
			ticks += 1 + len(l)
		}
		held(t, a, 50, runs.Total(x.left), a.Largest(), ticks, x.left)
	}
}

func TestTakeOfNone(t *testing.T) {
	for _, l := range [][]api.Run{nil, list(0, 12), list(5, 1), list(0, 1, 2, 1, 4, 3)} {
		for _, n := range []int{0, -1, -2, -12, -api.MaxPages, math.MinInt, math.MinInt + 1, -math.MaxInt, -1 << 32} {
			a, ticks := with(t, 12, l...)
			largest := a.Largest()
			took(t, a, n, 0, api.ErrArg)
			held(t, a, 12, runs.Total(l), largest, ticks, l)
		}
		for _, n := range []int{13, 14, api.MaxPages, api.MaxPages + 1, 1 << 31, 1 << 32, 1<<32 + 1, 1 << 62, math.MaxInt - 1, math.MaxInt} {
			a, ticks := with(t, 12, l...)
			largest := a.Largest()
			took(t, a, n, 0, api.ErrFull)
			held(t, a, 12, runs.Total(l), largest, ticks, l)
		}
	}
}

func TestGiveOfKnown(t *testing.T) {
	l := list(2, 3, 8, 1, 12, 3)
	for _, x := range []struct {
		page, n int
		more    []api.Run
	}{
		// It joins no run, the one ahead, the one behind, both.
		{0, 1, list(0, 1, 2, 3, 8, 1, 12, 3)}, {6, 1, list(2, 3, 6, 1, 8, 1, 12, 3)}, {16, 3, list(2, 3, 8, 1, 12, 3, 16, 3)}, {19, 1, list(2, 3, 8, 1, 12, 3, 19, 1)},
		{5, 1, list(2, 4, 8, 1, 12, 3)}, {9, 2, list(2, 3, 8, 3, 12, 3)}, {15, 5, list(2, 3, 8, 1, 12, 8)},
		{0, 2, list(0, 5, 8, 1, 12, 3)}, {7, 1, list(2, 3, 7, 2, 12, 3)}, {10, 2, list(2, 3, 8, 1, 10, 5)},
		{5, 3, list(2, 7, 12, 3)}, {9, 3, list(2, 3, 8, 7)},
	} {
		a, ticks := with(t, 20, l...)
		gave(t, a, x.page, x.n, api.OK)
		held(t, a, 20, 7+x.n, a.Largest(), ticks+4, x.more)
	}
	// To no runs at all, and what was taken at once is given back in parts, and the other way round.
	a, ticks := with(t, 6)
	gave(t, a, 2, 1, api.OK)
	held(t, a, 6, 1, 1, ticks+1, list(2, 1))
	took(t, a, 1, 2, api.OK)
	gave(t, a, 0, 6, api.OK)
	held(t, a, 6, 6, 6, ticks+1+2+1, list(0, 6))
	took(t, a, 2, 0, api.OK)
	took(t, a, 2, 2, api.OK)
	gave(t, a, 1, 2, api.OK)
	held(t, a, 6, 4, 2, ticks+1+2+1+6, list(1, 2, 4, 2))
}

func TestGiveOfWhatMayNotBe(t *testing.T) {
	l := list(2, 3, 8, 1, 12, 3)
	for _, x := range [][2]int{
		// Beyond the end, by a page and by many.
		{15, 6}, {19, 2}, {20, 1}, {21, 1}, {20, 0}, {0, 21}, {16, api.MaxPages}, {api.MaxPages, 1},
		// Free already, wholly, at either end, within, around.
		{2, 3}, {3, 1}, {8, 1}, {12, 3}, {2, 1}, {4, 1}, {1, 2}, {4, 2}, {7, 2}, {8, 2}, {1, 5}, {7, 3}, {5, 8}, {0, 20}, {14, 6},
		// No pages, and places below 0.
		{0, 0}, {6, 0}, {2, 0}, {6, -1}, {1, -1}, {6, math.MinInt}, {-1, 1}, {-1, 2}, {-5, 5}, {-5, 6}, {-1, 0}, {math.MinInt, 1}, {math.MinInt, math.MinInt}, {-1, math.MaxInt}, {math.MinInt, math.MaxInt},
		// Very great ones, whose sums go round.
		{15, math.MaxInt}, {math.MaxInt, 1}, {math.MaxInt, math.MaxInt}, {1 << 62, 1 << 62}, {1<<32 + 6, 1}, {6, 1<<32 + 1}, {math.MaxInt - 1, 2}, {math.MaxInt, math.MinInt},
	} {
		a, ticks := with(t, 20, l...)
		gave(t, a, x[0], x[1], api.ErrArg)
		held(t, a, 20, 7, 3, ticks, l)
	}
	// Of what is new nothing can be given back.
	a := pagerun.New(4)
	for page := -1; page <= 5; page++ {
		for n := -1; n <= 6; n++ {
			gave(t, a, page, n, api.ErrArg)
		}
	}
	held(t, a, 4, 4, 4, 0, list(0, 4))
}

// few is how many pages the tests of all sets have.
const few = 8

// ofSet is an Alloc, and the plain one, of which just these pages, one bit each, are free.
func ofSet(t *testing.T, set int) (*pagerun.Alloc, *plain) {
	t.Helper()
	a, m := pagerun.New(few), newPlain(few)
	took(t, a, few, 0, api.OK)
	m.mark(0, few, false)
	for page := range few {
		if set>>page&1 == 1 {
			gave(t, a, page, 1, api.OK)
			m.mark(page, 1, true)
		}
	}
	return a, m
}

func TestTakeOfAllSets(t *testing.T) {
	for set := range 1 << few {
		for _, n := range numbers() {
			a, m := ofSet(t, set)
			page, err := m.take(n)
			took(t, a, n, page, err)
			same(t, a, m)
		}
	}
}

func TestGiveOfAllSets(t *testing.T) {
	for set := range 1 << few {
		for page := -1; page <= few+1; page++ {
			for n := -1; n <= few+1; n++ {
				a, m := ofSet(t, set)
				gave(t, a, page, n, m.give(page, n))
				same(t, a, m)
			}
		}
	}
}

func TestGiveOfGreatNumbers(t *testing.T) {
	for _, set := range []int{0, 1, 1 << (few - 1), 0b00100110, 0b10101010, 1<<few - 1} {
		for _, page := range numbers() {
			for _, n := range numbers() {
				a, m := ofSet(t, set)
				gave(t, a, page, n, m.give(page, n))
				same(t, a, m)
			}
		}
	}
}

// P6.3

func TestTicksOfRunsThatWereFree(t *testing.T) {
	const pages = 40
	a := pagerun.New(pages)
	want := 0
	ticked := func(n int) {
		t.Helper()
		if want += n; a.Ticks() != want {
			t.Fatalf("Ticks %d, want %d; runs %v", a.Ticks(), want, a.Runs())
		}
	}
	ticked(0)
	// One run was free.
	took(t, a, pages, 0, api.OK)
	ticked(2)
	// None was.
	gave(t, a, 0, 1, api.OK)
	ticked(1)
	// One, two, three and more were.
	for i := 1; i < pages/2; i++ {
		gave(t, a, 2*i, 1, api.OK)
		ticked(1 + i)
	}
	// It joins two to one: those ahead of it count.
	gave(t, a, 1, 1, api.OK)
	ticked(1 + pages/2)
	// A run is gone, or only shorter; of both those ahead of it count, wherever the run stands.
	took(t, a, 1, 4, api.OK)
	ticked(1 + pages/2 - 1)
	took(t, a, 3, 0, api.OK)
	ticked(1 + pages/2 - 2)
	gave(t, a, 0, 3, api.OK)
	ticked(1 + pages/2 - 3)
	took(t, a, 2, 0, api.OK)
	ticked(1 + pages/2 - 2)
	took(t, a, 1, 2, api.OK)
	ticked(1 + pages/2 - 2)
	// How many pages there are is not to be seen.
	gave(t, a, pages-1, 1, api.OK)
	ticked(1 + pages/2 - 3)
}

func TestTicksOfManyPages(t *testing.T) {
	a := pagerun.New(api.MaxPages)
	took(t, a, api.MaxPages-1, 0, api.OK)
	took(t, a, 1, api.MaxPages-1, api.OK)
	gave(t, a, 5, api.MaxPages-5, api.OK)
	held(t, a, api.MaxPages, api.MaxPages-5, api.MaxPages-5, 2+2+1, list(5, api.MaxPages-5))
}

func TestErrorsTickNothing(t *testing.T) {
	for _, l := range [][]api.Run{nil, list(0, 12), list(3, 2), list(0, 1, 3, 2, 8, 1)} {
		a, ticks := with(t, 12, l...)
		largest := a.Largest()
		for range 3 {
			for _, n := range []int{0, -1, math.MinInt} {
				took(t, a, n, 0, api.ErrArg)
			}
			for _, n := range []int{13, 1 << 32, math.MaxInt} {
				took(t, a, n, 0, api.ErrFull)
			}
			for _, x := range [][2]int{{-1, 1}, {0, 0}, {12, 1}, {0, 13}, {math.MaxInt, math.MaxInt}} {
				gave(t, a, x[0], x[1], api.ErrArg)
			}
			for _, r := range l {
				gave(t, a, r.Page, r.Pages, api.ErrArg)
			}
			held(t, a, 12, runs.Total(l), largest, ticks, l)
		}
	}
}

func TestWhatIsOnlyAskedTicksNothing(t *testing.T) {
	a, ticks := with(t, 12, list(0, 1, 3, 2, 8, 1)...)
	for range 5 {
		a.Pages()
		a.Free()
		a.Largest()
		a.Runs()
	}
	held(t, a, 12, 4, 2, ticks, list(0, 1, 3, 2, 8, 1))
}

// P6.4

func TestOfNil(t *testing.T) {
	var a *pagerun.Alloc
	for range 2 {
		held(t, a, 0, 0, 0, 0, nil)
		if l := a.Runs(); len(l) != 0 {
			t.Errorf("nil has runs: %v", l)
		}
		for _, n := range numbers() {
			took(t, a, n, 0, api.ErrArg)
			for _, page := range numbers() {
				gave(t, a, page, n, api.ErrArg)
			}
		}
	}
}

// P6.5

// giveAll gives back what was taken, in an order that is handed in, and fails, unless there is one run again.
func giveAll(t *testing.T, a *pagerun.Alloc, taken []api.Run, order []int) {
	t.Helper()
	for _, i := range order {
		gave(t, a, taken[i].Page, taken[i].Pages, api.OK)
		if !runs.Right(a.Runs(), a.Pages()) {
			t.Fatalf("not right: %v", a.Runs())
		}
	}
	held(t, a, a.Pages(), a.Pages(), a.Pages(), a.Ticks(), list(0, a.Pages()))
}

// orders are all orders of so many things.
func orders(n int) [][]int {
	if n == 0 {
		return [][]int{nil}
	}
	var all [][]int
	for _, o := range orders(n - 1) {
		for i := range n {
			all = append(all, slices.Insert(slices.Clone(o), i, n-1))
		}
	}
	return all
}

func TestGivenBackInAllOrders(t *testing.T) {
	for _, sizes := range [][]int{{1, 1, 1, 1, 1, 1}, {3, 1, 2, 1, 4, 1}, {2, 2, 2, 2, 2}, {1, 5}, {12}} {
		// All pages are taken, or some are left at the end.
		for _, pages := range []int{0, 3} {
			for _, n := range sizes {
				pages += n
			}
			for _, order := range orders(len(sizes)) {
				a := pagerun.New(pages)
				var taken []api.Run
				for _, n := range sizes {
					page, err := a.Take(n)
					if err != api.OK {
						t.Fatalf("Take(%d): %v", n, err)
					}
					taken = append(taken, api.Run{Page: page, Pages: n})
				}
				giveAll(t, a, taken, order)
			}
		}
	}
}

func TestLongWays(t *testing.T) {
	for seed, pages := range []int{1, 2, 7, 30, 64, 200} {
		next := dice(uint64(seed))
		a, m := pagerun.New(pages), newPlain(pages)
		owner := make([]int, pages) // who has a page: 0 is nobody
		var taken []api.Run
		for i := range 4000 {
			// Now and then more is given back than taken, so that there are few and many free runs by turns.
			switch k := next(10); {
			case k < 3+i/400%5 && len(taken) > 0:
				j := next(len(taken))
				r := taken[j]
				taken = slices.Delete(taken, j, j+1)
				gave(t, a, r.Page, r.Pages, m.give(r.Page, r.Pages))
				clear(owner[r.Page : r.Page+r.Pages])
			case k == 9:
				// Any pages: they may be parts of what several calls took.
				page, n := next(pages+3)-1, next(6)-1
				err := m.give(page, n)
				gave(t, a, page, n, err)
				if err == api.OK {
					for p := page; p < page+n; p++ {
						owner[p] = 0
					}
					taken = slices.DeleteFunc(taken, func(r api.Run) bool {
						if r.Page >= page+n || page >= r.Page+r.Pages {
							return false
						}
						// What is left of whoever had these is given back too.
						for p := r.Page; p < r.Page+r.Pages; p++ {
							if owner[p] != 0 {
								gave(t, a, p, 1, m.give(p, 1))
								owner[p] = 0
							}
						}
						return true
					})
				}
			default:
				n := next(9)
				page, err := m.take(n)
				took(t, a, n, page, err)
				if err != api.OK {
					break
				}
				for p := page; p < page+n; p++ {
					if owner[p] != 0 {
						t.Fatalf("call %d: page %d is taken twice", i, p)
					}
					owner[p] = i + 1
				}
				taken = append(taken, api.Run{Page: page, Pages: n})
			}
			same(t, a, m)
			if !runs.Right(a.Runs(), a.Pages()) {
				t.Fatalf("call %d: not right: %v", i, a.Runs())
			}
		}
		order := make([]int, len(taken))
		for i := range order {
			order[i] = i
		}
		for i := range order {
			j := next(i + 1)
			order[i], order[j] = order[j], order[i]
		}
		giveAll(t, a, taken, order)
	}
}

func TestNoPageIsTakenTwiceTillAllAre(t *testing.T) {
	const pages = 3000
	a := pagerun.New(pages)
	next := dice(6)
	seen := make([]bool, pages)
	for a.Free() > 0 {
		n := min(1+next(20), a.Largest())
		page, err := a.Take(n)
		if err != api.OK {
			t.Fatalf("Take(%d), of %v: %v", n, a.Runs(), err)
		}
		for p := page; p < page+n; p++ {
			if seen[p] {
				t.Fatalf("page %d is taken twice", p)
			}
			seen[p] = true
		}
	}
	if slices.Contains(seen, false) {
		t.Error("a page was never taken")
	}
	took(t, a, 1, 0, api.ErrFull)
	// Each one alone: the even ones first, so that none is joined till the odd ones come.
	for p := 0; p < pages; p += 2 {
		gave(t, a, p, 1, api.OK)
	}
	if len(a.Runs()) != pages/2 || a.Largest() != 1 {
		t.Errorf("%d runs, the longest of %d", len(a.Runs()), a.Largest())
	}
	for p := pages - 1; p > 0; p -= 2 {
		gave(t, a, p, 1, api.OK)
	}
	held(t, a, pages, pages, pages, a.Ticks(), list(0, pages))
}

func TestTwiceTheSame(t *testing.T) {
	way := func() []int {
		a := pagerun.New(100)
		next := dice(9)
		var told []int
		for range 2000 {
			page, err := a.Take(next(12))
			told = append(told, page, int(err), int(a.Give(next(100), next(8))), a.Free(), a.Largest(), a.Ticks(), len(a.Runs()))
		}
		return told
	}
	if !slices.Equal(way(), way()) {
		t.Error("the same calls have other answers")
	}
}
