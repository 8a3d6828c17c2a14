package cache_test

import (
	"math"
	"slices"
	"testing"

	"steading/api"
	"steading/cache"
	"steading/classes"
)

// pagesOf is how many pages each class's chunks have.
var pagesOf = [7]int{1, 2, 4, 8, 16, 32, 64}

// noClass are numbers of no class; some of them would be one if they went round, or lost bits.
var noClass = []int{math.MinInt, math.MinInt + 1, math.MinInt + 6, math.MinInt32, -64, -7, -6, -2, -1, 7, 8, 9, 14, 28, 62, 63, 64, 65, 128, 256, 262, 1 << 20, math.MaxInt32, 1 << 32, 1<<32 + 1, 1<<32 + 6, 1 << 62, math.MaxInt - 1, math.MaxInt}

// below are pages that may not be kept.
var below = []int{-1, -2, -4, -4096, -1 << 20, math.MinInt32, -1 << 32, math.MinInt + 1, math.MinInt}

// far are pages that may be kept, from the first one to the greatest number.
var far = []int{0, 1, 1<<20 - 1, 1 << 20, 1<<20 + 1, math.MaxInt32, 1 << 32, 1 << 52, 1 << 62, math.MaxInt - 1, math.MaxInt}

// list is runs by pairs: where each begins, and how many pages it has.
func list(pairs ...int) []api.Run {
	var l []api.Run
	for i := 0; i < len(pairs); i += 2 {
		l = append(l, api.Run{Page: pairs[i], Pages: pairs[i+1]})
	}
	return l
}

// plain is a list of pages for each class, the one that was pushed first ahead: what a Cache is held against.
type plain struct {
	kept map[int][]int
}

func newPlain() *plain { return &plain{kept: map[int][]int{}} }

func (m *plain) push(class, page int) bool {
	if class < 0 || class > 6 || page < 0 || len(m.kept[class]) >= 4 {
		return false
	}
	m.kept[class] = append(m.kept[class], page)
	return true
}

func (m *plain) pop(class int) (int, bool) {
	l := m.kept[class]
	if len(l) == 0 {
		return 0, false
	}
	m.kept[class] = l[:len(l)-1]
	return l[len(l)-1], true
}

func (m *plain) all() []api.Run {
	var l []api.Run
	for class, pages := range pagesOf {
		for _, page := range m.kept[class] {
			l = append(l, api.Run{Page: page, Pages: pages})
		}
	}
	return l
}

// held fails, unless a Cache tells just so of itself: all that is kept, how many of each class, and their pages.
func held(t *testing.T, c *cache.Cache, want []api.Run) {
	t.Helper()
	if l := c.All(); !slices.Equal(l, want) {
		t.Fatalf("All() = %v, want %v", l, want)
	}
	pages, count := 0, map[int]int{}
	for _, r := range want {
		pages += r.Pages
		count[r.Pages]++
	}
	if p := c.Pages(); p != pages {
		t.Fatalf("Pages() = %d, want %d", p, pages)
	}
	for class, p := range pagesOf {
		if n := c.Len(class); n != count[p] {
			t.Fatalf("Len(%d) = %d, want %d", class, n, count[p])
		}
	}
	for _, class := range []int{-1, 7} {
		if n := c.Len(class); n != 0 {
			t.Fatalf("Len(%d) = %d, want 0", class, n)
		}
	}
}

// pushed fails, unless a Push answers so.
func pushed(t *testing.T, c *cache.Cache, class, page int, want bool) {
	t.Helper()
	if is := c.Push(class, page); is != want {
		t.Fatalf("Push(%d, %d) = %v, want %v", class, page, is, want)
	}
}

// popped fails, unless a Pop answers so.
func popped(t *testing.T, c *cache.Cache, class, page int, want bool) {
	t.Helper()
	if p, is := c.Pop(class); p != page || is != want {
		t.Fatalf("Pop(%d) = %d, %v, want %d, %v", class, p, is, page, want)
	}
}

// empty fails, unless a Cache keeps none, and none can be popped.
func empty(t *testing.T, c *cache.Cache) {
	t.Helper()
	held(t, c, nil)
	for class := range 7 {
		popped(t, c, class, 0, false)
	}
	held(t, c, nil)
}

// filled is a Cache each class of which is full, and all that it keeps: no page twice.
func filled(t *testing.T) (*cache.Cache, []api.Run) {
	t.Helper()
	c := cache.New()
	var want []api.Run
	for class, pages := range pagesOf {
		for i := range 4 {
			pushed(t, c, class, 1000*class+10*i, true)
			want = append(want, api.Run{Page: 1000*class + 10*i, Pages: pages})
		}
	}
	held(t, c, want)
	return c, want
}

// P9.1

func TestTheChaptersExample(t *testing.T) {
	c := cache.New()
	pushed(t, c, 1, 4, true)
	pushed(t, c, 1, 8, true)
	popped(t, c, 1, 8, true)
	popped(t, c, 1, 4, true)
	popped(t, c, 1, 0, false)
	empty(t, c)
}

func TestNewKeepsNone(t *testing.T) {
	if cache.New() == nil {
		t.Fatal("nil")
	}
	empty(t, cache.New())
}

func TestPushAndPopOfEachClass(t *testing.T) {
	for class, pages := range pagesOf {
		c := cache.New()
		pushed(t, c, class, 5, true)
		held(t, c, list(5, pages))
		for other := range 7 {
			if other != class {
				popped(t, c, other, 0, false)
			}
		}
		held(t, c, list(5, pages))
		popped(t, c, class, 5, true)
		empty(t, c)
	}
}

func TestPushOfPagesNearAndFar(t *testing.T) {
	for class, pages := range pagesOf {
		for _, page := range far {
			c := cache.New()
			pushed(t, c, class, page, true)
			held(t, c, list(page, pages))
			popped(t, c, class, page, true)
			empty(t, c)
		}
	}
}

func TestPageZeroCountsAsKept(t *testing.T) {
	for class, pages := range pagesOf {
		c := cache.New()
		for i := range 4 {
			pushed(t, c, class, 0, true)
			held(t, c, slices.Repeat(list(0, pages), i+1))
		}
		pushed(t, c, class, 0, false)
		for range 4 {
			popped(t, c, class, 0, true)
		}
		empty(t, c)
	}
}

func TestFourOfAClassAndOneMore(t *testing.T) {
	for class, pages := range pagesOf {
		c := cache.New()
		var want []api.Run
		for i := range 4 {
			pushed(t, c, class, 7*i, true)
			want = append(want, api.Run{Page: 7 * i, Pages: pages})
			held(t, c, want)
		}
		for _, page := range append([]int{3, 21, 28}, far...) {
			pushed(t, c, class, page, false)
			held(t, c, want)
		}
		for i := range 4 {
			popped(t, c, class, 7*(3-i), true)
			held(t, c, want[:3-i])
		}
		empty(t, c)
	}
}

func TestAFullClassLeavesRoomInTheOthers(t *testing.T) {
	for full := range 7 {
		c := cache.New()
		for i := range 4 {
			pushed(t, c, full, i, true)
		}
		for other := range 7 {
			pushed(t, c, other, 99, other != full)
		}
	}
}

func TestRoomAgainBehindAPop(t *testing.T) {
	c := cache.New()
	for i := range 4 {
		pushed(t, c, 2, i, true)
	}
	pushed(t, c, 2, 4, false)
	popped(t, c, 2, 3, true)
	pushed(t, c, 2, 5, true)
	pushed(t, c, 2, 6, false)
	held(t, c, list(0, 4, 1, 4, 2, 4, 5, 4))
	popped(t, c, 2, 5, true)
	popped(t, c, 2, 2, true)
	pushed(t, c, 2, 7, true)
	pushed(t, c, 2, 8, true)
	pushed(t, c, 2, 9, false)
	held(t, c, list(0, 4, 1, 4, 7, 4, 8, 4))
}

func TestTheSamePageMoreThanOnce(t *testing.T) {
	c := cache.New()
	for _, page := range []int{6, 6, 9, 6} {
		pushed(t, c, 3, page, true)
	}
	// Of another class too, as nothing is held against what is kept.
	pushed(t, c, 0, 6, true)
	pushed(t, c, 6, 6, true)
	held(t, c, list(6, 1, 6, 8, 6, 8, 9, 8, 6, 8, 6, 64))
	popped(t, c, 3, 6, true)
	popped(t, c, 3, 9, true)
	held(t, c, list(6, 1, 6, 8, 6, 8, 6, 64))
	popped(t, c, 3, 6, true)
	popped(t, c, 3, 6, true)
	popped(t, c, 3, 0, false)
	popped(t, c, 0, 6, true)
	popped(t, c, 6, 6, true)
	empty(t, c)
}

func TestPopOfAClassFromWhichAllWerePopped(t *testing.T) {
	for class, pages := range pagesOf {
		c := cache.New()
		for n := range 5 {
			for i := range n {
				pushed(t, c, class, 40+i, true)
			}
			for i := range n {
				popped(t, c, class, 40+n-1-i, true)
			}
			for range 3 {
				popped(t, c, class, 0, false)
				held(t, c, nil)
			}
		}
		pushed(t, c, class, 3, true)
		held(t, c, list(3, pages))
	}
}

func TestPopOfEachClassWhenAllAreFull(t *testing.T) {
	for class := range 7 {
		c, all := filled(t)
		for i := range 4 {
			popped(t, c, class, 1000*class+10*(3-i), true)
			rest := slices.Concat(all[:4*class+3-i], all[4*class+4:])
			held(t, c, rest)
		}
		popped(t, c, class, 0, false)
		held(t, c, slices.Concat(all[:4*class], all[4*class+4:]))
	}
}

func TestPushesAndPopsByTurns(t *testing.T) {
	c := cache.New()
	pushed(t, c, 4, 100, true)
	for i := range 50 {
		pushed(t, c, 4, i, true)
		held(t, c, list(100, 16, i, 16))
		popped(t, c, 4, i, true)
		held(t, c, list(100, 16))
	}
	for i := range 50 {
		popped(t, c, 4, 100+i, true)
		pushed(t, c, 4, 101+i, true)
		held(t, c, list(101+i, 16))
	}
}

func TestClassesBetweenOneAnother(t *testing.T) {
	c := cache.New()
	pushed(t, c, 6, 10, true)
	pushed(t, c, 0, 20, true)
	pushed(t, c, 6, 30, true)
	popped(t, c, 0, 20, true)
	pushed(t, c, 3, 40, true)
	pushed(t, c, 0, 50, true)
	popped(t, c, 6, 30, true)
	pushed(t, c, 0, 60, true)
	popped(t, c, 5, 0, false)
	held(t, c, list(50, 1, 60, 1, 40, 8, 10, 64))
	popped(t, c, 3, 40, true)
	popped(t, c, 3, 0, false)
	popped(t, c, 0, 60, true)
	popped(t, c, 6, 10, true)
	popped(t, c, 0, 50, true)
	empty(t, c)
}

func TestPushOfNoClass(t *testing.T) {
	none := cache.New()
	full, all := filled(t)
	for _, class := range noClass {
		for _, page := range append(far, below...) {
			pushed(t, none, class, page, false)
			pushed(t, full, class, page, false)
		}
		held(t, none, nil)
		held(t, full, all)
	}
}

func TestPushOfPagesBelowZero(t *testing.T) {
	none := cache.New()
	some := cache.New()
	for class := range 7 {
		pushed(t, some, class, 2, true)
	}
	want := some.All()
	full, all := filled(t)
	for class := range 7 {
		for _, page := range below {
			pushed(t, none, class, page, false)
			pushed(t, some, class, page, false)
			pushed(t, full, class, page, false)
			held(t, none, nil)
			held(t, some, want)
			held(t, full, all)
		}
	}
	empty(t, none)
}

func TestPopOfNoClass(t *testing.T) {
	none := cache.New()
	full, all := filled(t)
	for _, class := range noClass {
		popped(t, none, class, 0, false)
		popped(t, full, class, 0, false)
		held(t, none, nil)
		held(t, full, all)
	}
}

// P9.2

func TestLenOfNoClass(t *testing.T) {
	none := cache.New()
	full, all := filled(t)
	for _, class := range noClass {
		if none.Len(class) != 0 || full.Len(class) != 0 {
			t.Error(class, none.Len(class), full.Len(class))
		}
	}
	held(t, none, nil)
	held(t, full, all)
}

func TestLenOfEachClass(t *testing.T) {
	c := cache.New()
	for class := range 7 {
		for i := range class % 5 {
			pushed(t, c, class, i, true)
		}
	}
	for class, want := range []int{0, 1, 2, 3, 4, 0, 1} {
		if n := c.Len(class); n != want {
			t.Error(class, n)
		}
	}
}

func TestPagesOfNoneSomeAndAll(t *testing.T) {
	c := cache.New()
	if p := c.Pages(); p != 0 {
		t.Error(p)
	}
	pushed(t, c, 2, math.MaxInt, true)
	if p := c.Pages(); p != 4 {
		t.Error(p)
	}
	pushed(t, c, 2, 0, true)
	pushed(t, c, 6, 1, true)
	pushed(t, c, 0, 1, true)
	if p := c.Pages(); p != 4+4+64+1 {
		t.Error(p)
	}
	popped(t, c, 2, 0, true)
	if p := c.Pages(); p != 4+64+1 {
		t.Error(p)
	}
	full, _ := filled(t)
	if p := full.Pages(); p != 4*127 {
		t.Error(p)
	}
}

func TestPagesAreThoseOfClasses(t *testing.T) {
	c, all := filled(t)
	sum := 0
	for class := range api.Classes {
		sum += api.CacheMax * classes.Pages(class)
		for _, r := range all[4*class : 4*class+4] {
			if r.Pages != classes.Pages(class) {
				t.Error(class, r)
			}
		}
	}
	if c.Pages() != sum {
		t.Error(c.Pages(), sum)
	}
}

func TestAllInTheOrderOfClasses(t *testing.T) {
	c := cache.New()
	// The classes falling, and the pages of each neither rising nor falling.
	for class := 6; class >= 0; class-- {
		for _, page := range []int{50, 7, 90} {
			pushed(t, c, class, page+class, true)
		}
	}
	var want []api.Run
	for class, pages := range pagesOf {
		want = append(want, list(50+class, pages, 7+class, pages, 90+class, pages)...)
	}
	held(t, c, want)
}

func TestAllBehindPushesAndPops(t *testing.T) {
	c := cache.New()
	for _, page := range []int{8, 3, 5, 1} {
		pushed(t, c, 1, page, true)
	}
	pushed(t, c, 5, 2, true)
	pushed(t, c, 0, 9, true)
	held(t, c, list(9, 1, 8, 2, 3, 2, 5, 2, 1, 2, 2, 32))
	popped(t, c, 1, 1, true)
	popped(t, c, 1, 5, true)
	pushed(t, c, 1, 4, true)
	held(t, c, list(9, 1, 8, 2, 3, 2, 4, 2, 2, 32))
	popped(t, c, 0, 9, true)
	pushed(t, c, 5, 0, true)
	pushed(t, c, 1, 0, true)
	held(t, c, list(8, 2, 3, 2, 4, 2, 0, 2, 2, 32, 0, 32))
}

func TestWhatAllAnsweredMayBeChanged(t *testing.T) {
	full, want := filled(t)
	one := cache.New()
	pushed(t, one, 2, 5, true)
	for _, c := range []*cache.Cache{full, one} {
		want := want
		if c == one {
			want = list(5, 4)
		}
		l, other := c.All(), c.All()
		for i := range l {
			l[i] = api.Run{Page: -1, Pages: 0}
		}
		_ = append(l[:0], slices.Repeat(list(77, 7), len(l)+1)...)
		clear(l[:cap(l)])
		held(t, c, want)
		if !slices.Equal(other, want) {
			t.Error(other)
		}
	}
	popped(t, one, 2, 5, true)
	popped(t, full, 6, 6030, true)
	popped(t, full, 0, 30, true)
}

func TestWhatAllAnsweredStays(t *testing.T) {
	c, want := filled(t)
	l := c.All()
	for class := range 7 {
		for range 2 {
			c.Pop(class)
		}
		pushed(t, c, class, 5, true)
	}
	if !slices.Equal(l, want) {
		t.Error("changed by pops and pushes", l)
	}
	c.Clear()
	if !slices.Equal(l, want) {
		t.Error("changed by Clear", l)
	}
}

func TestAskingChangesNothing(t *testing.T) {
	c, want := filled(t)
	for range 3 {
		held(t, c, want)
	}
}

func TestClear(t *testing.T) {
	c := cache.New()
	c.Clear()
	empty(t, c)
	pushed(t, c, 3, 4, true)
	c.Clear()
	empty(t, c)
	full, _ := filled(t)
	full.Clear()
	empty(t, full)
	full.Clear()
	empty(t, full)
}

func TestPushesBehindClear(t *testing.T) {
	c, _ := filled(t)
	for round := range 3 {
		c.Clear()
		pushed(t, c, 6, round, true)
		pushed(t, c, 0, 8, true)
		pushed(t, c, 6, 9, true)
		// Nothing of what was kept ahead of Clear stands behind these.
		held(t, c, list(8, 1, round, 64, 9, 64))
		popped(t, c, 6, 9, true)
		popped(t, c, 6, round, true)
		popped(t, c, 6, 0, false)
		popped(t, c, 5, 0, false)
		held(t, c, list(8, 1))
		for class := range 7 {
			for c.Len(class) < 4 {
				pushed(t, c, class, 50, true)
			}
			pushed(t, c, class, 50, false)
		}
	}
}

func TestTwoCachesSideBySide(t *testing.T) {
	a, b := cache.New(), cache.New()
	if a == b {
		t.Fatal("one and the same")
	}
	for i := range 4 {
		pushed(t, a, 2, i, true)
		held(t, b, nil)
	}
	pushed(t, a, 2, 4, false)
	pushed(t, b, 2, 70, true)
	pushed(t, b, 5, 80, true)
	held(t, a, list(0, 4, 1, 4, 2, 4, 3, 4))
	held(t, b, list(70, 4, 80, 32))
	popped(t, a, 2, 3, true)
	popped(t, a, 5, 0, false)
	popped(t, b, 2, 70, true)
	popped(t, b, 2, 0, false)
	held(t, a, list(0, 4, 1, 4, 2, 4))
	a.Clear()
	held(t, b, list(80, 32))
	empty(t, a)
	popped(t, b, 5, 80, true)
	pushed(t, a, 0, 1, true)
	empty(t, b)
}

// P9.3

func TestZeroCacheKeepsNone(t *testing.T) {
	var c cache.Cache
	empty(t, &c)
	for class, pages := range pagesOf {
		var c cache.Cache
		for i := range 4 {
			pushed(t, &c, class, i, true)
		}
		pushed(t, &c, class, 4, false)
		pushed(t, &c, class, -1, false)
		held(t, &c, list(0, pages, 1, pages, 2, pages, 3, pages))
		popped(t, &c, class, 3, true)
		c.Clear()
		empty(t, &c)
	}
	for _, class := range noClass {
		pushed(t, &c, class, 0, false)
		popped(t, &c, class, 0, false)
		if n := c.Len(class); n != 0 {
			t.Error(class, n)
		}
	}
	c.Clear()
	empty(t, &c)
}

func TestNilCache(t *testing.T) {
	var c *cache.Cache
	for _, class := range append([]int{0, 1, 2, 3, 4, 5, 6}, noClass...) {
		for _, page := range append(far, below...) {
			pushed(t, c, class, page, false)
		}
		popped(t, c, class, 0, false)
		if n := c.Len(class); n != 0 {
			t.Error(class, n)
		}
	}
	if p := c.Pages(); p != 0 {
		t.Error(p)
	}
	if l := c.All(); len(l) != 0 {
		t.Error(l)
	}
	c.Clear()
	empty(t, c)
}

// P9.1 and P9.2, against the plain one

// same fails, unless a Cache tells of itself what the plain one does.
func same(t *testing.T, c *cache.Cache, m *plain) {
	t.Helper()
	held(t, c, m.all())
}

// bothPush pushes to a Cache and the plain one, and fails, unless they answer the same.
func bothPush(t *testing.T, c *cache.Cache, m *plain, class, page int) {
	t.Helper()
	pushed(t, c, class, page, m.push(class, page))
}

// bothPop pops from a Cache and the plain one, and fails, unless they answer the same.
func bothPop(t *testing.T, c *cache.Cache, m *plain, class int) {
	t.Helper()
	page, is := m.pop(class)
	popped(t, c, class, page, is)
}

func TestAllShortSequences(t *testing.T) {
	// Each sequence of 7 steps, each of which pushes to one of two classes, or pops from one, or clears.
	const steps, kinds = 7, 5
	sequences := 1
	for range steps {
		sequences *= kinds
	}
	for sequence := range sequences {
		c, m := cache.New(), newPlain()
		rest := sequence
		for step := range steps {
			switch kind := rest % kinds; kind {
			case 0, 1:
				bothPush(t, c, m, 6*kind, step)
			case 2, 3:
				bothPop(t, c, m, 6*(kind-2))
			default:
				c.Clear()
				m = newPlain()
			}
			rest /= kinds
		}
		same(t, c, m)
	}
}

func TestLongSequences(t *testing.T) {
	seed := uint64(9)
	next := func(n int) int {
		seed = seed*6364136223846793005 + 1442695040888963407
		return int(seed>>33) % n
	}
	c, m := cache.New(), newPlain()
	for range 60000 {
		// Classes from -1 to 7, and pages from -1 on: some are refused.
		class := next(9) - 1
		switch kind := next(100); {
		case kind < 50:
			bothPush(t, c, m, class, next(1+1<<next(21))-1)
		case kind < 99:
			bothPop(t, c, m, class)
		default:
			c.Clear()
			m = newPlain()
		}
		same(t, c, m)
	}
}

func TestTwiceTheSame(t *testing.T) {
	run := func() []api.Run {
		c := cache.New()
		for i := range 200 {
			c.Push(i*5%7, i)
			if i%3 == 0 {
				c.Pop(i * 3 % 7)
			}
		}
		return c.All()
	}
	if a, b := run(), run(); len(a) == 0 || !slices.Equal(a, b) {
		t.Error(a, b)
	}
}
