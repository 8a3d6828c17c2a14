package bump_test

import (
	"math"
	"math/big"
	"testing"

	"steading/bump"
)

const (
	top      = ^uint64(0)
	maxPages = 1 << 20
)

// pagesOf are how many pages chunks have: of each class, and large ones.
var pagesOf = []int{1, 2, 4, 8, 16, 32, 64, 65, 66, 100, 127, 128, 257, 1000, 1<<16 + 1, maxPages - 1, maxPages}

// wrongAlignments are no powers of two.
var wrongAlignments = []uint64{0, 3, 5, 6, 7, 9, 12, 31, 33, 63, 65, 96, 4095, 4097, 6144, 1<<32 + 1, 1<<32 - 1, 3 << 32, 1<<63 - 1, 1<<63 + 1, 3 << 62, top - 1, top}

func cursor(at, end uint64) bump.Cursor { return bump.Cursor{At: at, End: end} }

// alignments are all powers of two.
func alignments() []uint64 {
	var l []uint64
	for k := range 64 {
		l = append(l, 1<<k)
	}
	return l
}

func number(n uint64) *big.Int { return new(big.Int).SetUint64(n) }

// sum is as many as numbers come to, however many that is.
func sum(l ...uint64) *big.Int {
	all := new(big.Int)
	for _, n := range l {
		all.Add(all, number(n))
	}
	return all
}

// plainOf is Of, in numbers of any length.
func plainOf(page, pages int) bump.Cursor {
	end := new(big.Int).Add(big.NewInt(int64(page)), big.NewInt(int64(pages)))
	if page < 0 || pages < 1 || end.Cmp(big.NewInt(maxPages)) > 0 {
		return bump.Cursor{}
	}
	return cursor(uint64(page)*4096+32, end.Uint64()*4096)
}

// plainFit is Fit, in numbers of any length.
func plainFit(c bump.Cursor, size, align uint64) (uint64, bump.Cursor, uint64, bool) {
	none := func() (uint64, bump.Cursor, uint64, bool) { return 0, bump.Cursor{}, 0, false }
	power := false
	for _, a := range alignments() {
		power = power || a == align
	}
	if size == 0 || !power {
		return none()
	}
	count, rest := new(big.Int).DivMod(number(c.At), number(align), new(big.Int))
	if rest.Sign() != 0 {
		count.Add(count, big.NewInt(1))
	}
	start := count.Mul(count, number(align))
	end := new(big.Int).Add(start, number(size))
	if !start.IsUint64() || end.Cmp(number(c.End)) > 0 {
		return none()
	}
	return start.Uint64(), cursor(end.Uint64(), c.End), new(big.Int).Sub(start, number(c.At)).Uint64(), true
}

// holdOf holds Of against what it should be.
func holdOf(t *testing.T, page, pages int, want bump.Cursor) {
	t.Helper()
	if c := bump.Of(page, pages); c != want {
		t.Errorf("Of(%d, %d): %v, not %v", page, pages, c, want)
	}
}

// holdFit holds Fit against what it should be: bytes from start on.
func holdFit(t *testing.T, c bump.Cursor, size, align, start uint64) bump.Cursor {
	t.Helper()
	s, next, padding, ok := bump.Fit(c, size, align)
	if s != start || next != cursor(start+size, c.End) || padding != start-c.At || !ok {
		t.Errorf("Fit(%v, %d, %d): %d %v %d %v, not from %d on", c, size, align, s, next, padding, ok, start)
	}
	return next
}

// holdNone fails, unless Fit tells false, and all zero.
func holdNone(t *testing.T, c bump.Cursor, size, align uint64) {
	t.Helper()
	if s, next, padding, ok := bump.Fit(c, size, align); s != 0 || next != (bump.Cursor{}) || padding != 0 || ok {
		t.Errorf("Fit(%v, %d, %d): %d %v %d %v, not none", c, size, align, s, next, padding, ok)
	}
}

// holdPlain holds Fit against the plain one.
func holdPlain(t *testing.T, c bump.Cursor, size, align uint64) {
	t.Helper()
	s, next, padding, ok := bump.Fit(c, size, align)
	ws, wnext, wpadding, wok := plainFit(c, size, align)
	if s != ws || next != wnext || padding != wpadding || ok != wok {
		t.Errorf("Fit(%v, %d, %d): %d %v %d %v, not %d %v %d %v", c, size, align, s, next, padding, ok, ws, wnext, wpadding, wok)
	}
}

// holdLeft holds Left against what it should be.
func holdLeft(t *testing.T, c bump.Cursor, want uint64) {
	t.Helper()
	if n := bump.Left(c); n != want {
		t.Errorf("Left(%v): %d, not %d", c, n, want)
	}
}

// chance is numbers, always the same ones: each is below n.
func chance(seed uint64) func(n int) int {
	return func(n int) int {
		seed = seed*6364136223846793005 + 1442695040888963407
		return int(seed>>33) % n
	}
}

// P11.1: Of

func TestOfTheExample(t *testing.T) {
	holdOf(t, 1, 1, cursor(4128, 8192))
}

func TestOfPageZero(t *testing.T) {
	holdOf(t, 0, 1, cursor(32, 4096))
	holdOf(t, 0, 2, cursor(32, 8192))
	holdOf(t, 0, 64, cursor(32, 262144))
	holdOf(t, 0, 65, cursor(32, 266240))
}

func TestOfChunksOfAllPages(t *testing.T) {
	for _, pages := range pagesOf {
		for _, page := range []int{0, 1, 2, 3, 7, 64, 100, 4095, 4096, 1 << 19, maxPages - 128, maxPages - 64, maxPages - 2, maxPages - 1} {
			want := bump.Cursor{}
			if page+pages <= maxPages {
				want = cursor(uint64(page)*4096+32, uint64(page+pages)*4096)
			}
			holdOf(t, page, pages, want)
		}
	}
}

func TestOfThePagesUpToTheLast(t *testing.T) {
	holdOf(t, 0, maxPages, cursor(32, 1<<32))
	holdOf(t, 1, maxPages-1, cursor(4128, 1<<32))
	holdOf(t, maxPages-1, 1, cursor(1<<32-4096+32, 1<<32))
	for _, pages := range pagesOf {
		page := maxPages - pages
		holdOf(t, page, pages, cursor(uint64(page)*4096+32, 1<<32))
		holdOf(t, page+1, pages, bump.Cursor{})
		holdOf(t, page, pages+1, bump.Cursor{})
	}
	holdOf(t, 0, maxPages+1, bump.Cursor{})
	holdOf(t, maxPages, 1, bump.Cursor{})
}

func TestOfPagesThatMayNotBe(t *testing.T) {
	for _, page := range []int{-1, -2, -32, -4096, -maxPages, math.MinInt32, -1 << 32, -1 << 52, math.MinInt + 1, math.MinInt} {
		// Also where both together would be 0 and MaxPages, or between.
		for _, pages := range []int{1, 2, 3, 64, maxPages, maxPages + 1, maxPages - page, maxPages - page - 1, 1 - page, -page, math.MaxInt} {
			holdOf(t, page, pages, bump.Cursor{})
		}
	}
	for _, page := range []int{maxPages, maxPages + 1, math.MaxInt32, 1 << 32, 1<<32 + 1, 1 << 52, 1<<52 + 1, 1 << 62, math.MaxInt - 1, math.MaxInt} {
		for _, pages := range []int{1, 2, 64, maxPages, math.MaxInt} {
			holdOf(t, page, pages, bump.Cursor{})
		}
	}
	for _, pages := range []int{0, -1, -2, -64, -maxPages, math.MinInt32, -1 << 32, math.MinInt + 1, math.MinInt} {
		for _, page := range []int{0, 1, 2, 3, 64, 65, maxPages - 1, maxPages, maxPages + 1, 1 << 32, math.MaxInt} {
			holdOf(t, page, pages, bump.Cursor{})
		}
	}
	for _, pages := range []int{maxPages + 1, math.MaxInt32, 1 << 32, 1<<32 + 1, 1 << 52, 1<<52 + 1, 1 << 62, math.MaxInt - 1, math.MaxInt} {
		for _, page := range []int{0, 1, 64, maxPages - 1, maxPages} {
			holdOf(t, page, pages, bump.Cursor{})
		}
	}
}

func TestOfSumsThatGoRound(t *testing.T) {
	for _, x := range [][2]int{{1, math.MaxInt}, {math.MaxInt, 1}, {math.MaxInt, math.MaxInt}, {2, math.MaxInt}, {1 << 62, 1 << 62}, {1<<62 + 1, 1<<62 - 1}, {math.MaxInt - 5, 7}, {math.MinInt, math.MinInt}, {math.MinInt, -1}, {-1, math.MinInt}, {math.MinInt + 1, math.MinInt + 5}, {math.MinInt, math.MaxInt}, {math.MaxInt, math.MinInt}} {
		holdOf(t, x[0], x[1], bump.Cursor{})
	}
}

func TestOfAgainstThePlainOne(t *testing.T) {
	var l []int
	for _, n := range []int{math.MinInt + 4, -1 << 62, -1 << 52, -1 << 32, -1 << 31, -maxPages, -4096, -64, 0, 64, 4096, maxPages / 2, maxPages - 64, maxPages, 1 << 31, 1 << 32, 1 << 44, 1 << 52, 1 << 62, math.MaxInt - 4} {
		for near := -4; near <= 4; near++ {
			l = append(l, n+near)
		}
	}
	for _, page := range l {
		for _, pages := range append(l, maxPages-page-1, maxPages-page, maxPages-page+1) {
			holdOf(t, page, pages, plainOf(page, pages))
		}
	}
}

// P11.1: Left

func TestLeftOfFreshOnes(t *testing.T) {
	for _, pages := range pagesOf {
		holdLeft(t, bump.Of(0, pages), uint64(pages)*4096-32)
		holdLeft(t, bump.Of(maxPages-pages, pages), uint64(pages)*4096-32)
	}
}

func TestLeftAtTheEnd(t *testing.T) {
	for _, end := range []uint64{1, 2, 33, 4096, 8192, 1 << 32, 1 << 63, top - 1, top} {
		holdLeft(t, cursor(end, end), 0)
		holdLeft(t, cursor(end-1, end), 1)
		holdLeft(t, cursor(end, end-1), 0)
		holdLeft(t, cursor(0, end), end)
		holdLeft(t, cursor(end, 0), 0)
		holdLeft(t, cursor(top, end), 0)
	}
	holdLeft(t, bump.Cursor{}, 0)
	holdLeft(t, cursor(5, 3), 0)
	holdLeft(t, cursor(1<<63+1, 1<<63-1), 0)
	holdLeft(t, cursor(1<<63-1, 1<<63+1), 2)
	holdLeft(t, cursor(1, top), top-1)
}

func TestLeftOfNone(t *testing.T) {
	holdLeft(t, bump.Of(-1, 1), 0)
	holdLeft(t, bump.Of(0, 0), 0)
	_, c, _, _ := bump.Fit(bump.Of(0, 1), 5000, 1)
	holdLeft(t, c, 0)
}

func TestLeftFallsByWhatIsFit(t *testing.T) {
	c := bump.Of(2, 1)
	for _, x := range []struct{ size, align, left uint64 }{{8, 8, 4056}, {1, 1, 4055}, {4, 4, 4048}, {100, 1024, 2972}, {2971, 1, 1}, {1, 1, 0}} {
		_, c, _, _ = bump.Fit(c, x.size, x.align)
		holdLeft(t, c, x.left)
	}
}

// P11.2

func TestFitOfTheExamples(t *testing.T) {
	c := holdFit(t, bump.Of(1, 1), 10, 64, 4160)
	if c != cursor(4170, 8192) {
		t.Error(c)
	}
	_, _, padding, _ := bump.Fit(bump.Of(1, 1), 10, 64)
	if padding != 32 {
		t.Error(padding)
	}
	// The document's example of the whole: behind a header of 32 bytes.
	holdFit(t, bump.Of(0, 1), 10, 64, 64)
}

func TestFitWithoutAlignment(t *testing.T) {
	for _, pages := range pagesOf[:12] {
		c, at := bump.Of(3, pages), uint64(3*4096+32)
		for size := uint64(1); at+size <= c.End; size++ {
			c = holdFit(t, c, size, 1, at)
			at += size
		}
		holdLeft(t, c, c.End-at)
	}
}

func TestFitOfEachAlignment(t *testing.T) {
	// From page 0 on: behind the header, each alignment up to its end has room, and a greater one none.
	for _, pages := range pagesOf {
		c := bump.Of(0, pages)
		for _, align := range alignments() {
			start := max(32, align)
			if start >= c.End {
				holdNone(t, c, 1, align)
				continue
			}
			next := holdFit(t, c, 1, align, start)
			// A byte more begins at the alignment's next multiple.
			if align > 1 && 2*start < c.End {
				holdFit(t, next, 1, align, (start/align+1)*align)
			}
			holdFit(t, c, c.End-start, align, start)
			holdNone(t, c, c.End-start+1, align)
		}
	}
}

func TestFitOneBehindTheOtherByAlignments(t *testing.T) {
	for _, align := range alignments()[:14] {
		c, at := bump.Of(1, 64), uint64(4096+32)
		for size := uint64(1); ; size = size*3%1000 + 1 {
			start := (at + align - 1) / align * align
			if start+size > c.End {
				holdNone(t, c, size, align)
				break
			}
			c = holdFit(t, c, size, align, start)
			at = start + size
		}
	}
}

func TestFitOfAStartThatIsThere(t *testing.T) {
	for _, align := range alignments()[:62] {
		for _, count := range []uint64{0, 1, 2, 3} {
			at := count * align
			// At itself, one below, and nearly an alignment below.
			c := cursor(at, top)
			holdFit(t, c, 1, align, at)
			if align > 1 {
				holdFit(t, cursor(at+1, top), 1, align, at+align)
				holdFit(t, cursor(at+align-1, top), 1, align, at+align)
			}
			holdFit(t, cursor(at+align, top), 1, align, at+align)
		}
	}
}

func TestFitUpToTheEnd(t *testing.T) {
	for _, end := range []uint64{1, 33, 100, 4096, 8192, 1 << 32, 1 << 63, top - 1, top} {
		for _, at := range []uint64{0, 1, end / 2, end - 1} {
			c := cursor(at, end)
			if at < end {
				if next := holdFit(t, c, end-at, 1, at); next != cursor(end, end) {
					t.Error(next)
				}
			}
			// One byte more, and many more.
			holdNone(t, c, end-at+1, 1)
			if at > 0 {
				holdNone(t, c, top, 1)
			}
		}
		holdNone(t, cursor(end, end), 1, 1)
		holdNone(t, cursor(end, end), 0, 1)
	}
	// The padding counts as well.
	holdFit(t, cursor(90, 100), 4, 32, 96)
	holdNone(t, cursor(90, 100), 5, 32)
	holdNone(t, cursor(90, 100), 1, 64)
	holdNone(t, cursor(97, 128), 1, 64)
	holdNone(t, cursor(65, 128), 1, 64)
	holdFit(t, cursor(65, 129), 1, 64, 128)
}

func TestFitOfAlignmentsGreaterThanTheChunk(t *testing.T) {
	for _, page := range []int{1, 2, 3, 1000} {
		c := bump.Of(page, 1)
		for _, align := range alignments()[12:] {
			holdNone(t, c, 1, align)
		}
		// By 8192, in 2 pages: every second page begins at a multiple, and only behind the header there is room.
		c = bump.Of(page, 2)
		if page%2 == 1 {
			holdFit(t, c, 4096, 8192, uint64(page+1)*4096)
			holdNone(t, c, 4097, 8192)
		} else {
			holdNone(t, c, 1, 8192)
		}
	}
	holdNone(t, bump.Of(0, maxPages), 1, 1<<32)
	holdFit(t, bump.Of(0, maxPages), 1<<31, 1<<31, 1<<31)
	holdNone(t, bump.Of(0, maxPages), 1<<31+1, 1<<31)
	holdNone(t, bump.Of(0, maxPages), 1, 1<<63)
}

func TestFitByTheGreatestAlignment(t *testing.T) {
	holdFit(t, cursor(0, top), 1, 1<<63, 0)
	holdFit(t, cursor(0, top), top, 1<<63, 0)
	holdFit(t, cursor(1, top), 1, 1<<63, 1<<63)
	holdFit(t, cursor(1<<63-1, top), 1, 1<<63, 1<<63)
	holdFit(t, cursor(1<<63, top), 1<<63-1, 1<<63, 1<<63)
	holdNone(t, cursor(1<<63, top), 1<<63, 1<<63)
	holdNone(t, cursor(1, 1<<63), 1, 1<<63)
	holdFit(t, cursor(1, 1<<63+1), 1, 1<<63, 1<<63)
	holdNone(t, cursor(1<<63+1, top), 1, 1<<63)
}

func TestFitOfStartsThatThereAreNot(t *testing.T) {
	for _, align := range alignments()[1:] {
		last := -align // the last multiple below 2^64
		for _, size := range []uint64{1, 2, align, align - 1, top} {
			for _, end := range []uint64{0, 1, 4096, 1 << 63, last, top - 1, top} {
				// A start that went round would be 0, and have room.
				holdNone(t, cursor(last+1, end), size, align)
				holdNone(t, cursor(top, end), size, align)
			}
		}
		holdFit(t, cursor(last, top), align-1, align, last)
		holdNone(t, cursor(last, top), align, align)
	}
	holdNone(t, cursor(top, top), 1, 1)
	holdFit(t, cursor(top-1, top), 1, 1, top-1)
}

func TestFitOfSumsThatAreTooGreat(t *testing.T) {
	for _, at := range []uint64{1, 2, 32, 4128, 1 << 32, 1 << 63, top - 3, top - 1, top} {
		for _, end := range []uint64{0, at - 1, at, top - 1, top} {
			// 2^64 itself, and more: the sum that went round would be 0, or a little more.
			for _, size := range []uint64{top - at + 1, top - at + 2, top - at/2, top - 1, top} {
				if sum(at, size).IsUint64() {
					continue
				}
				holdNone(t, cursor(at, end), size, 1)
				// The same start, behind padding.
				if at%2 == 0 {
					holdNone(t, cursor(at-1, end), size, at&-at)
				}
			}
		}
	}
	holdFit(t, cursor(0, top), top, 1, 0)
	holdNone(t, cursor(1, top), top, 1)
	holdFit(t, cursor(1, top), top-1, 1, 1)
	// The padding makes the sum too great.
	holdFit(t, cursor(1, top), top-1024, 1024, 1024)
	holdNone(t, cursor(1, top), top-1023, 1024)
	holdNone(t, cursor(1, top), top-1, 1024)
}

func TestFitOfNoBytes(t *testing.T) {
	for _, c := range []bump.Cursor{{}, bump.Of(0, 1), bump.Of(1, 64), cursor(100, 100), cursor(0, 1), cursor(0, top), cursor(top, top), cursor(5, 3)} {
		for _, align := range append(alignments(), wrongAlignments...) {
			holdNone(t, c, 0, align)
		}
	}
}

func TestFitOfWrongAlignments(t *testing.T) {
	for _, align := range wrongAlignments {
		for _, size := range []uint64{1, 2, 100, 4064, 1 << 32, top - 1, top} {
			// Also of multiples, and of 0, where no padding would be needed.
			for _, c := range []bump.Cursor{{}, bump.Of(0, 1), bump.Of(1, 64), bump.Of(0, maxPages), cursor(0, top), cursor(align, top), cursor(align*2, top), cursor(5, 3)} {
				holdNone(t, c, size, align)
			}
		}
	}
	for align := uint64(0); align <= 9000; align++ {
		if _, _, _, ok := bump.Fit(cursor(0, top), 1, align); ok != (align != 0 && align&(align-1) == 0) {
			t.Error(align, ok)
		}
	}
}

func TestFitOfCursorsThatNoChunkHas(t *testing.T) {
	for _, align := range alignments() {
		for _, size := range []uint64{1, 2, 4096, top} {
			// At beyond the end, and an end at 0.
			for _, c := range []bump.Cursor{{}, cursor(1, 0), cursor(32, 0), cursor(top, 0), cursor(4096, 4095), cursor(1<<63+1, 1<<63), cursor(top, top-1)} {
				holdNone(t, c, size, align)
			}
		}
	}
	holdFit(t, cursor(0, 1), 1, 1, 0)
	holdFit(t, cursor(0, 1), 1, 1<<63, 0)
	holdFit(t, cursor(7, 1<<40), 1<<39, 1<<39, 1<<39)
	holdFit(t, cursor(1<<33+5, top), 1<<50, 8, 1<<33+8)
	holdFit(t, cursor(1<<63+1, top), 1<<62, 4096, 1<<63+4096)
}

func TestFitOfNone(t *testing.T) {
	for _, c := range []bump.Cursor{bump.Of(-1, 1), bump.Of(0, 0), bump.Of(maxPages, 1)} {
		holdNone(t, c, 1, 1)
		holdNone(t, c, top, 4096)
	}
}

func TestWhatIsHandedInStays(t *testing.T) {
	c := bump.Of(5, 2)
	was := c
	for range 3 {
		holdFit(t, c, 100, 64, 5*4096+64)
		holdNone(t, c, 100000, 64)
		holdLeft(t, c, 8160)
		if c != was {
			t.Fatal(c)
		}
	}
}

func TestFitAgainstThePlainOne(t *testing.T) {
	var l []uint64
	for _, n := range []uint64{2, 30, 64, 100, 4096, 8192, 1 << 32, 1 << 63, top - 4096, top - 66, top - 1} {
		l = append(l, n-2, n-1, n, n+1)
	}
	few := []uint64{0, 1, 2, 3, 7, 8, 64, 65, 4095, 4096, 1 << 31, 1 << 32, 1 << 62, 1<<63 - 1, 1 << 63, 3 << 62, top - 1, top}
	for _, at := range l {
		for _, end := range l {
			for _, align := range few {
				for _, size := range append(few, end-at-1, end-at, end-at+1, -at-1, -at, -at+1, align-1, align+1) {
					holdPlain(t, cursor(at, end), size, align)
				}
			}
		}
	}
}

func TestFitOfAllSmallOnesAgainstThePlainOne(t *testing.T) {
	for at := range uint64(18) {
		for end := range uint64(18) {
			for size := range uint64(19) {
				for align := range uint64(18) {
					holdPlain(t, cursor(at, end), size, align)
					// The same ones, just ahead of 2^64.
					holdPlain(t, cursor(top-at, top-end), size, align)
					holdPlain(t, cursor(at, top-end), top-size, align)
				}
			}
		}
	}
}

func TestFitOfManyAgainstThePlainOne(t *testing.T) {
	next := chance(11)
	// Numbers of all lengths in bits.
	wide := func() uint64 {
		return (uint64(next(1<<31))<<33 ^ uint64(next(1<<31))<<2 ^ uint64(next(4))) >> next(64)
	}
	for range 40000 {
		align := uint64(1)<<next(64) + uint64(next(9)/4) - uint64(next(9)/8)
		c := cursor(wide(), wide())
		holdPlain(t, c, wide(), align)
		holdPlain(t, c, 1+uint64(next(100)), 1<<next(20))
		// A size that nearly ends where the cursor does.
		holdPlain(t, c, bump.Left(c)-uint64(next(300)), 1<<next(10))
	}
}

func TestTwiceTheSame(t *testing.T) {
	for _, page := range []int{-1, 0, 1, 1000, maxPages} {
		c := bump.Of(page, 3)
		holdOf(t, page, 3, c)
		for _, size := range []uint64{0, 1, 4064, 20000} {
			for _, align := range []uint64{0, 1, 64, 4096} {
				s, n, p, ok := bump.Fit(c, size, align)
				if s2, n2, p2, ok2 := bump.Fit(c, size, align); s != s2 || n != n2 || p != p2 || ok != ok2 {
					t.Error(c, size, align)
				}
			}
		}
	}
}

// P11.3

func TestWhatIsFitDoesNotOverlap(t *testing.T) {
	next := chance(3)
	for _, pages := range []int{1, 2, 4, 8, 16, 32, 64, 65, 100} {
		for page := range 4 {
			c := bump.Of(page, pages)
			first, end := uint64(page)*4096, uint64(page+pages)*4096
			// How often each byte of the chunk was made: its header's bytes count as made.
			made := make([]int, pages*4096)
			for i := range 32 {
				made[i]++
			}
			for range 300 * pages {
				size, align := 1+uint64(next(1<<next(14))), uint64(1)<<next(14)
				was := c
				start, behind, padding, ok := bump.Fit(c, size, align)
				if !ok {
					holdNone(t, c, size, align)
					// Nothing was made: there is no place from the cursor on.
					if sum((c.At+align-1)/align*align, size).Cmp(number(end)) <= 0 {
						t.Fatal("there was room", c, size, align)
					}
					continue
				}
				if start%align != 0 || padding >= align || start-padding != was.At || behind.End != end {
					t.Fatal(was, size, align, start, behind, padding)
				}
				for at := start; at < start+size; at++ {
					made[at-first]++
				}
				c = behind
			}
			for i, n := range made {
				if n > 1 {
					t.Fatalf("byte %d of %d pages at page %d was made %d times", i, pages, page, n)
				}
			}
		}
	}
}

func TestSizesPaddingAndWhatIsLeftAreAll(t *testing.T) {
	next := chance(29)
	for _, pages := range pagesOf {
		c := bump.Of(maxPages-pages, pages)
		all := bump.Left(c)
		var sizes, paddings uint64
		for range 2000 {
			size, align := 1+uint64(next(1<<next(20))), uint64(1)<<next(16)
			_, behind, padding, ok := bump.Fit(c, size, align)
			if !ok {
				continue
			}
			if padding >= align {
				t.Fatal(c, size, align, padding)
			}
			sizes, paddings, c = sizes+size, paddings+padding, behind
			if sizes+paddings+bump.Left(c) != all || c.End != 1<<32 {
				t.Fatal(pages, sizes, paddings, c)
			}
		}
	}
}

func TestPaddingIsTheLeast(t *testing.T) {
	for _, align := range alignments()[:13] {
		for at := uint64(4128); at <= 4128+2*align; at++ {
			_, _, padding, ok := bump.Fit(cursor(at, 1<<20), 1, align)
			least := uint64(0)
			for (at+least)%align != 0 {
				least++
			}
			if padding != least || padding >= align || !ok {
				t.Fatal(at, align, padding, ok)
			}
		}
	}
}

// The signatures, of which the compiler tells.
var (
	_ func(int, int) bump.Cursor                                            = bump.Of
	_ func(bump.Cursor, uint64, uint64) (uint64, bump.Cursor, uint64, bool) = bump.Fit
	_ func(bump.Cursor) uint64                                              = bump.Left
	_                                                                       = struct{ At, End uint64 }(bump.Cursor{})
)
