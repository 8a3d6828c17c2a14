package classes_test

import (
	"math"
	"math/big"
	"testing"

	"steading/api"
	"steading/bits"
	"steading/classes"
)

// wrong are numbers that are neither a class nor pages that a chunk of a class may be made for.
var wrong = []int{math.MinInt, math.MinInt + 1, math.MinInt32, -64, -7, -2, -1, 65, 128, 1 << 20, 1<<20 + 1, math.MaxInt32, 1 << 32, 1<<32 + 1, 1 << 62, math.MaxInt - 1, math.MaxInt}

// alignments are all of those that may be.
func alignments() []uint64 {
	var l []uint64
	for a := uint64(1); a <= 4096; a *= 2 {
		l = append(l, a)
	}
	return l
}

// first is where bytes of an alignment begin, behind a header: found by going up, byte by byte.
func first(align uint64) uint64 {
	at := uint64(32)
	for at%align != 0 {
		at++
	}
	return at
}

// may tells whether an alignment is one of those that may be.
func may(align uint64) bool {
	for _, a := range alignments() {
		if a == align {
			return true
		}
	}
	return false
}

// plainNeed is Need, in numbers of any length.
func plainNeed(size, align uint64) (uint64, bool) {
	if size == 0 || !may(align) {
		return 0, false
	}
	end := new(big.Int).Add(new(big.Int).SetUint64(first(align)), new(big.Int).SetUint64(size))
	if !end.IsUint64() {
		return 0, false
	}
	pages, rest := new(big.Int).DivMod(end, big.NewInt(4096), new(big.Int))
	if rest.Sign() != 0 {
		pages.Add(pages, big.NewInt(1))
	}
	return pages.Uint64(), true
}

// plainChunk is Chunk, by the classes' pages one by one.
func plainChunk(size, align uint64) (int, bool, bool) {
	need, ok := plainNeed(size, align)
	if !ok || need > 1<<20 {
		return 0, false, false
	}
	for _, pages := range []uint64{1, 2, 4, 8, 16, 32, 64} {
		if pages >= need {
			return int(pages), false, true
		}
	}
	return int(need), true, true
}

// holdNeed holds Need against what it should be.
func holdNeed(t *testing.T, size, align, pages uint64, is bool) {
	t.Helper()
	if p, ok := classes.Need(size, align); p != pages || ok != is {
		t.Errorf("Need(%d, %d): %d %v, not %d %v", size, align, p, ok, pages, is)
	}
}

// holdChunk holds Chunk against what it should be.
func holdChunk(t *testing.T, size, align uint64, pages int, large, is bool) {
	t.Helper()
	if p, l, ok := classes.Chunk(size, align); p != pages || l != large || ok != is {
		t.Errorf("Chunk(%d, %d): %d %v %v, not %d %v %v", size, align, p, l, ok, pages, large, is)
	}
}

// holdPlain holds both against the plain ones.
func holdPlain(t *testing.T, size, align uint64) {
	t.Helper()
	need, is := plainNeed(size, align)
	holdNeed(t, size, align, need, is)
	pages, large, is := plainChunk(size, align)
	holdChunk(t, size, align, pages, large, is)
}

// P7.1

func TestPagesOfEachClass(t *testing.T) {
	for class, want := range []int{1, 2, 4, 8, 16, 32, 64} {
		if p := classes.Pages(class); p != want {
			t.Error(class, p)
		}
	}
}

func TestPagesOfNoClass(t *testing.T) {
	for _, class := range append([]int{7, 8, 12, 62, 63, 64}, wrong...) {
		if p := classes.Pages(class); p != 0 {
			t.Error(class, p)
		}
	}
}

func TestClassOfPages(t *testing.T) {
	for pages, want := range map[int]int{1: 0, 2: 1, 3: 2, 4: 2, 5: 3, 8: 3, 9: 4, 16: 4, 17: 5, 32: 5, 33: 6, 63: 6, 64: 6} {
		if k := classes.Class(pages); k != want {
			t.Error(pages, k)
		}
	}
}

func TestClassOfNoPagesOrTooMany(t *testing.T) {
	for _, pages := range append([]int{0}, wrong...) {
		if k := classes.Class(pages); k != -1 {
			t.Error(pages, k)
		}
	}
}

func TestClassIsTheLeast(t *testing.T) {
	for pages := 1; pages <= 64; pages++ {
		k := classes.Class(pages)
		if k < 0 || k > 6 || classes.Pages(k) < pages {
			t.Error("too few pages", pages, k)
		}
		if k > 0 && classes.Pages(k-1) >= pages {
			t.Error("a lesser class does", pages, k)
		}
	}
}

func TestClassOfAClassesOwnPages(t *testing.T) {
	for class := range 7 {
		own := classes.Pages(class)
		if k := classes.Class(own); k != class {
			t.Error("own", class, k)
		}
		next := class + 1
		if next == 7 {
			next = -1
		}
		if k := classes.Class(own + 1); k != next {
			t.Error("one more", class, k)
		}
	}
}

// P7.2

func TestNeedOfTheExamples(t *testing.T) {
	holdNeed(t, 4064, 1, 1, true)
	holdNeed(t, 4065, 1, 2, true)
	holdNeed(t, 1, 4096, 2, true)
	holdNeed(t, 1, 1, 1, true)
}

func TestNeedOfAlignmentsAroundTheHeader(t *testing.T) {
	for _, align := range []uint64{1, 2, 4, 8, 16, 32} {
		holdNeed(t, 4064, align, 1, true)
		holdNeed(t, 4065, align, 2, true)
	}
	holdNeed(t, 4032, 64, 1, true)
	holdNeed(t, 4033, 64, 2, true)
	holdNeed(t, 4064, 64, 2, true)
	holdNeed(t, 2048, 2048, 1, true)
	holdNeed(t, 2049, 2048, 2, true)
	holdNeed(t, 4096, 4096, 2, true)
	holdNeed(t, 4097, 4096, 3, true)
}

func TestNeedOfNoBytes(t *testing.T) {
	for _, align := range append(alignments(), 0, 3, 8192, math.MaxUint64) {
		holdNeed(t, 0, align, 0, false)
	}
}

func TestNeedOfWrongAlignments(t *testing.T) {
	for _, align := range []uint64{0, 3, 5, 6, 7, 12, 31, 33, 63, 65, 96, 4094, 4095, 4097, 6144, 8191, 8192, 8193, 1 << 16, 1 << 31, 1 << 32, 1<<32 + 1, 1 << 62, 1 << 63, 1<<63 + 1, math.MaxUint64 - 1, math.MaxUint64} {
		for _, size := range []uint64{1, 4064, 1 << 32, math.MaxUint64} {
			holdNeed(t, size, align, 0, false)
		}
	}
}

func TestNeedOfAllSmallAlignments(t *testing.T) {
	for align := uint64(0); align <= 9000; align++ {
		if p, ok := classes.Need(1, align); ok != may(align) || (!ok && p != 0) {
			t.Error(align, p, ok)
		}
	}
}

func TestNeedOfSumsThatAreTooGreat(t *testing.T) {
	for _, align := range alignments() {
		// The greatest sum is 2^64 - 1, in as many pages as 2^64 bytes would have.
		greatest := math.MaxUint64 - first(align)
		holdNeed(t, greatest, align, 1<<52, true)
		holdNeed(t, greatest-4095, align, 1<<52-1, true)
		holdNeed(t, greatest-4094, align, 1<<52, true)
		holdNeed(t, greatest+1, align, 0, false)
		holdNeed(t, greatest+2, align, 0, false)
		holdNeed(t, math.MaxUint64, align, 0, false)
	}
}

func TestNeedOfPagesToTheirEnds(t *testing.T) {
	for _, align := range alignments() {
		for _, pages := range []uint64{2, 3, 4, 5, 7, 8, 9, 16, 31, 32, 33, 63, 64, 65, 66, 1000, 1<<20 - 1, 1 << 20, 1<<20 + 1, 1 << 51} {
			fill := pages*4096 - first(align)
			holdNeed(t, fill, align, pages, true)
			holdNeed(t, fill+1, align, pages+1, true)
		}
	}
}

// P7.3

func TestChunkOfTheExamples(t *testing.T) {
	holdChunk(t, 1, 1, 1, false, true)
	holdChunk(t, 5*4096-32, 1, 8, false, true)
	holdChunk(t, 5*4096, 1, 8, false, true)
	holdChunk(t, 3*4096-32, 1, 4, false, true)
	holdChunk(t, 65*4096-32, 1, 65, true, true)
	holdChunk(t, 65*4096, 1, 66, true, true)
	holdChunk(t, 1, 4096, 2, false, true)
}

func TestChunkThatIsFullToItsEnd(t *testing.T) {
	for _, align := range alignments() {
		for class := range 7 {
			pages := 1 << class
			fill := uint64(pages)*4096 - first(align)
			if fill > 0 {
				holdChunk(t, fill, align, pages, false, true)
			}
			if class < 6 {
				holdChunk(t, fill+1, align, 2*pages, false, true)
			} else {
				holdChunk(t, fill+1, align, 65, true, true)
			}
		}
	}
}

func TestChunkOfEachNeed(t *testing.T) {
	for need := 1; need <= 200; need++ {
		want, large := need, true
		for k := 6; k >= 0; k-- {
			if 1<<k >= need {
				want, large = 1<<k, false
			}
		}
		holdChunk(t, uint64(need)*4096-32, 8, want, large, true)
	}
}

func TestChunkOfSixtyFourPagesAndOfMore(t *testing.T) {
	holdChunk(t, 64*4096-32, 1, 64, false, true)
	holdChunk(t, 64*4096-31, 1, 65, true, true)
	holdChunk(t, 64*4096-64, 64, 64, false, true)
	holdChunk(t, 64*4096-63, 64, 65, true, true)
	holdChunk(t, 63*4096, 4096, 64, false, true)
	holdChunk(t, 63*4096+1, 4096, 65, true, true)
}

func TestChunkOfMaxPagesAndOfMore(t *testing.T) {
	for _, align := range alignments() {
		fill := uint64(1)<<32 - first(align)
		holdChunk(t, fill-4096, align, 1<<20-1, true, true)
		holdChunk(t, fill, align, 1<<20, true, true)
		holdChunk(t, fill+1, align, 0, false, false)
		holdChunk(t, fill+4096, align, 0, false, false)
		// A need of which an int of 32 bits, or one with a sign, would hold less.
		holdChunk(t, 1<<44, align, 0, false, false)
		holdChunk(t, 1<<44+1, align, 0, false, false)
		holdChunk(t, 1<<63, align, 0, false, false)
	}
}

func TestChunkWhereThereIsNoNeed(t *testing.T) {
	for _, align := range alignments() {
		holdChunk(t, 0, align, 0, false, false)
		holdChunk(t, math.MaxUint64-first(align), align, 0, false, false)
		holdChunk(t, math.MaxUint64-first(align)+1, align, 0, false, false)
		holdChunk(t, math.MaxUint64, align, 0, false, false)
	}
	for _, align := range []uint64{0, 3, 6, 33, 4095, 4097, 8192, 1 << 63, math.MaxUint64} {
		holdChunk(t, 1, align, 0, false, false)
		holdChunk(t, 65*4096, align, 0, false, false)
		holdChunk(t, 0, align, 0, false, false)
	}
}

// P7.2 and P7.3, against the plain ones

func TestAllSizesOfSomePages(t *testing.T) {
	for _, align := range []uint64{1, 32, 64, 4096} {
		for size := uint64(0); size <= 70*4096; size++ {
			need, is := plainNeedSmall(size, align)
			holdNeed(t, size, align, need, is)
		}
	}
}

// plainNeedSmall is Need of sizes whose sums aren't too great, and of alignments that may be.
func plainNeedSmall(size, align uint64) (uint64, bool) {
	if size == 0 {
		return 0, false
	}
	return (max(32, align) + size + 4095) / 4096, true
}

func TestManySizesAndAlignments(t *testing.T) {
	seed := uint64(7)
	next := func() uint64 {
		seed = seed*6364136223846793005 + 1442695040888963407
		return seed >> 33
	}
	for range 40000 {
		// Sizes of all lengths in bits, and alignments around the powers of two.
		size := (next()<<33 ^ next()<<2 ^ next()) >> (next() % 64)
		align := uint64(1)<<(next()%16) + next()%3 - 1
		holdPlain(t, size, align)
		holdPlain(t, size, 1<<(next()%13))
		// Sizes around the ends of pages.
		pages := next() % (1 << (next() % 22))
		holdPlain(t, pages*4096+next()%5-34, 1<<(next()%13))
	}
}

func TestTwiceTheSame(t *testing.T) {
	for _, size := range []uint64{0, 1, 4064, 4065, 64 * 4096, 1 << 32, math.MaxUint64} {
		for _, align := range []uint64{0, 1, 64, 4096, 8192} {
			pages, large, is := classes.Chunk(size, align)
			holdChunk(t, size, align, pages, large, is)
			need, is := classes.Need(size, align)
			holdNeed(t, size, align, need, is)
		}
	}
}

// P7.4

// holdRoom holds a chunk's pages against what is to lie in it.
func holdRoom(t *testing.T, size, align uint64) {
	t.Helper()
	need, _ := classes.Need(size, align)
	pages, large, ok := classes.Chunk(size, align)
	if !ok {
		t.Errorf("no chunk of %d, %d", size, align)
		return
	}
	if !bits.In(first(align), size, uint64(pages)*4096) {
		t.Errorf("%d pages hold no header, padding and %d bytes of alignment %d", pages, size, align)
	}
	if uint64(pages) < need || uint64(pages) >= 2*need {
		t.Errorf("%d pages, and needed are %d", pages, need)
	}
	if large && uint64(pages) != need {
		t.Errorf("a large chunk has %d pages, not %d", pages, need)
	}
	if !large && classes.Pages(classes.Class(pages)) != pages {
		t.Errorf("%d pages are those of no class", pages)
	}
	if large != (classes.Class(pages) < 0) {
		t.Errorf("%d pages: large %v", pages, large)
	}
}

func TestChunksHoldWhatTheyAreMadeFor(t *testing.T) {
	for _, align := range alignments() {
		for size := uint64(1); size <= 140*4096; size += 37 {
			holdRoom(t, size, align)
		}
		for pages := uint64(2); pages <= 140; pages++ {
			fill := pages*4096 - first(align)
			holdRoom(t, fill-1, align)
			holdRoom(t, fill, align)
			holdRoom(t, fill+1, align)
		}
		holdRoom(t, 1, align)
		holdRoom(t, api.MaxPages*4096-first(align), align)
	}
}

func TestOnePageLessHoldsNotAll(t *testing.T) {
	for _, align := range alignments() {
		for size := uint64(1); size <= 140*4096; size += 41 {
			need, ok := classes.Need(size, align)
			if !ok || bits.In(first(align), size, (need-1)*4096) {
				t.Errorf("%d pages are more than %d, %d needs", need, size, align)
			}
		}
	}
}

func TestClassesHaveLessThanTwiceThePages(t *testing.T) {
	for need := 1; need <= 64; need++ {
		p := classes.Pages(classes.Class(need))
		if p < need || p >= 2*need {
			t.Error(need, p)
		}
	}
}
