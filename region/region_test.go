package region_test

import (
	"bytes"
	"math"
	"slices"
	"testing"

	"steading/api"
	"steading/chunk"
	"steading/header"
	"steading/region"
)

const top = ^uint64(0)

// aligns are all alignments that may be.
var aligns = []uint64{1, 2, 4, 8, 16, 32, 64, 128, 256, 512, 1024, 2048, 4096}

// wrongAligns are none; some of them would be one if they lost bits.
var wrongAligns = []uint64{0, 3, 5, 6, 7, 9, 12, 24, 33, 96, 1000, 4095, 4097, 6144, 8191, 8192, 8193, 1 << 14, 1 << 20, 1 << 31, 1 << 32, 1<<32 + 1, 1 << 62, 1 << 63, 1<<63 + 1, top - 4095, top - 1, top}

// tooGreat are sizes for which there is no chunk, by whatever alignment.
var tooGreat = []uint64{1<<32 - 31, 1<<32 - 1, 1 << 32, 1<<32 + 1, 1 << 40, 1 << 52, 1<<52 + 1, 1 << 63, 1<<63 + 1, top - 8191, top - 4096, top - 4095, top - 64, top - 33, top - 32, top - 31, top - 1, top}

// list is runs by pairs: where each begins, and how many pages it has.
func list(pairs ...int) []api.Run {
	var l []api.Run
	for i := 0; i < len(pairs); i += 2 {
		l = append(l, api.Run{Page: pairs[i], Pages: pairs[i+1]})
	}
	return l
}

// chance is numbers, always the same ones.
func chance(seed uint64) func(int) int {
	return func(n int) int {
		seed = seed*6364136223846793005 + 1442695040888963407
		return int(seed >> 33 % uint64(n))
	}
}

// holdAlloc fails, unless an Alloc answers so.
func holdAlloc(t *testing.T, r *region.Region, size, align, want uint64, wantErr api.Errno) {
	t.Helper()
	if at, err := r.Alloc(size, align); at != want || err != wantErr {
		t.Fatalf("Alloc(%d, %d) = %d, %v, want %d, %v", size, align, at, err, want, wantErr)
	}
}

// made fails, unless an Alloc finds room there.
func made(t *testing.T, r *region.Region, size, align, want uint64) {
	t.Helper()
	holdAlloc(t, r, size, align, want, api.OK)
}

// holdFits fails, unless a Fits answers so.
func holdFits(t *testing.T, r *region.Region, size, align uint64, want bool) {
	t.Helper()
	if is := r.Fits(size, align); is != want {
		t.Fatalf("Fits(%d, %d) = %v at %+v", size, align, is, r.Mark())
	}
}

// holdRewind fails, unless a Rewind answers so.
func holdRewind(t *testing.T, r *region.Region, m region.Mark, want api.Errno) {
	t.Helper()
	if err := r.Rewind(m); err != want {
		t.Fatalf("Rewind(%+v) = %v, want %v", m, err, want)
	}
}

// rewound fails, unless a Rewind is right, and the region's place is the mark then.
func rewound(t *testing.T, r *region.Region, m region.Mark) {
	t.Helper()
	holdRewind(t, r, m, api.OK)
	holdMark(t, r, m)
}

// holdReset fails, unless a Reset answers so.
func holdReset(t *testing.T, r *region.Region, want api.Errno) {
	t.Helper()
	if err := r.Reset(); err != want {
		t.Fatalf("Reset() = %v, want %v", err, want)
	}
}

// holdMark fails, unless a Mark is this one.
func holdMark(t *testing.T, r *region.Region, want region.Mark) {
	t.Helper()
	if m := r.Mark(); m != want {
		t.Fatalf("Mark() = %+v, want %+v", m, want)
	}
}

// holdMeter fails, unless a Meter is this one.
func holdMeter(t *testing.T, r *region.Region, want api.Meter) {
	t.Helper()
	if m := r.Meter(); m != want {
		t.Fatalf("Meter() = %+v, want %+v", m, want)
	}
}

// holdChunks fails, unless a region has these shared chunks, and these large ones, the last one first.
func holdChunks(t *testing.T, r *region.Region, shared, large []api.Run) {
	t.Helper()
	if a, b := r.Chunks(); !slices.Equal(a, shared) || !slices.Equal(b, large) {
		t.Fatalf("Chunks() = %v, %v, want %v, %v", a, b, shared, large)
	}
}

// empty fails, unless nothing is in a region.
func empty(t *testing.T, r *region.Region) {
	t.Helper()
	holdMark(t, r, region.Mark{})
	holdMeter(t, r, api.Meter{})
	holdChunks(t, r, nil, nil)
}

// stored fails, unless a Store tells so of itself.
func stored(t *testing.T, s *chunk.Store, ticks int, runs, kept []api.Run) {
	t.Helper()
	if !slices.Equal(s.Runs(), runs) || !slices.Equal(s.Cached(), kept) || s.Ticks() != ticks {
		t.Fatalf("Runs %v, Cached %v, Ticks %d, want %v, %v, %d", s.Runs(), s.Cached(), s.Ticks(), runs, kept, ticks)
	}
}

// tells fails, unless this header stands at a page; it doesn't tick, since a clone's is read.
func tells(t *testing.T, s *chunk.Store, page int, want header.Head) {
	t.Helper()
	if h, err := header.Read(s.Space().Clone(), page); h != want || err != api.OK {
		t.Fatalf("the header at %d: %+v, %v, want %+v", page, h, err, want)
	}
}

// piece is some bytes of a Store's space; it doesn't tick there, since they are loaded from a clone.
func piece(t *testing.T, s *chunk.Store, at, n uint64) []byte {
	t.Helper()
	b, err := s.Space().Clone().Load(at, n)
	if err != api.OK {
		t.Fatalf("Load of %d bytes from %d on: %v", n, at, err)
	}
	return b
}

// whole is all bytes of a Store's space, of MaxBytes at most.
func whole(t *testing.T, s *chunk.Store) []byte {
	t.Helper()
	return piece(t, s, 0, s.Space().Size())
}

// isZero fails, unless so many bytes from a place on are 0.
func isZero(t *testing.T, s *chunk.Store, at, n uint64) {
	t.Helper()
	if i := bytes.IndexFunc(piece(t, s, at, n), func(c rune) bool { return c != 0 }); i >= 0 {
		t.Fatalf("the byte %d of %d from %d on isn't 0", i, n, at)
	}
}

// lay lays bytes of one value, by hand.
func lay(t *testing.T, s *chunk.Store, at, n uint64, value byte) {
	t.Helper()
	if err := s.Space().Store(at, bytes.Repeat([]byte{value}, int(n))); err != api.OK {
		t.Fatalf("Store of %d bytes from %d on: %v", n, at, err)
	}
}

// dirty is a Store of so many pages, none of whose bytes is 0, and these bytes.
func dirty(t *testing.T, pages int) (*chunk.Store, []byte) {
	t.Helper()
	s, b := chunk.New(pages), make([]byte, pages*api.Page)
	for i := range b {
		b[i] = byte(1 + (i+i/251)%255)
	}
	if err := s.Space().Store(0, b); err != api.OK {
		t.Fatal(err)
	}
	return s, b
}

// still fails, unless what is done changes nothing of a region, its Store's ticks among it.
func still(t *testing.T, s *chunk.Store, r *region.Region, do func()) {
	t.Helper()
	ticks, runs, kept, b := s.Ticks(), s.Runs(), s.Cached(), s.Space().Clone()
	m, meter := r.Mark(), r.Meter()
	do()
	stored(t, s, ticks, runs, kept)
	holdMark(t, r, m)
	holdMeter(t, r, meter)
	now := s.Space().Clone()
	for at := uint64(0); at < b.Size(); at += api.Page {
		was, _ := b.Load(at, api.Page)
		if is, _ := now.Load(at, api.Page); !bytes.Equal(is, was) {
			t.Fatalf("bytes of page %d are changed", at/api.Page)
		}
	}
}

// eight is a Store of 300 pages, a region of it, of owner 9, in which eight times bytes were made, and its Mark ahead of each, and behind the last one.
func eight(t *testing.T) (*chunk.Store, *region.Region, []region.Mark) {
	t.Helper()
	s := chunk.New(300)
	r := region.New(s, 9)
	marks := []region.Mark{r.Mark()}
	for _, x := range [][3]uint64{
		{100, 16, 32}, {1, 1, 132}, {8, 8, 136}, // a chunk of 1 page, at 0
		{5000, 1, 1*4096 + 32},    // of 2 pages
		{300000, 64, 3*4096 + 64}, // of 74 pages: a large one
		{20, 4096, 78 * 4096},     // of 2 pages, at 77
		{270000, 1, 79*4096 + 32}, // of 66 pages: a large one
		{10, 2, 78*4096 + 20},
	} {
		made(t, r, x[0], x[1], x[2])
		marks = append(marks, r.Mark())
	}
	return s, r, marks
}

// eightMarks are the marks of eight.
func eightMarks() []region.Mark {
	return []region.Mark{
		{},
		{Chunks: 1, At: 132, Objects: 100},
		{Chunks: 1, At: 133, Objects: 101},
		{Chunks: 1, At: 144, Objects: 109, Padding: 3},
		{Chunks: 2, At: 9128, Objects: 5109, Padding: 3},
		{Chunks: 2, Larges: 1, At: 9128, Objects: 305109, Padding: 35},
		{Chunks: 3, Larges: 1, At: 319508, Objects: 305129, Padding: 4099},
		{Chunks: 3, Larges: 2, At: 319508, Objects: 575129, Padding: 4099},
		{Chunks: 3, Larges: 2, At: 319518, Objects: 575139, Padding: 4099},
	}
}

// P15.1

func TestTheChaptersExample(t *testing.T) {
	s := chunk.New(10)
	r := region.New(s, 1)
	made(t, r, 10, 8, 32)
	made(t, r, 4, 64, 64)
	m := r.Mark()
	made(t, r, 5000, 1, 4096+32)
	holdChunks(t, r, list(1, 2, 0, 1), nil)
	rewound(t, r, m)
	stored(t, s, s.Ticks(), list(3, 7), list(1, 2))
	made(t, r, 4, 4, 68)
}

func TestNewHasNothing(t *testing.T) {
	for _, owner := range []uint64{0, 1, 9, 1 << 32, 1 << 63, top} {
		s := chunk.New(3)
		r := region.New(s, owner)
		empty(t, r)
		holdFits(t, r, 1, 1, false)
		rewound(t, r, region.Mark{})
		holdReset(t, r, api.OK)
		empty(t, r)
		stored(t, s, 0, list(0, 3), nil)
	}
}

func TestEightOfThem(t *testing.T) {
	s, r, marks := eight(t)
	if !slices.Equal(marks, eightMarks()) {
		t.Fatalf("the marks are %+v, want %+v", marks, eightMarks())
	}
	// Each chunk: its pages 2, its header 1, its link 2, and each of its 145 pages in all, whose bytes are made 0.
	stored(t, s, 5*5+145, list(145, 155), nil)
	holdMeter(t, r, api.Meter{Held: 145, Objects: 575139, Padding: 4099, Headers: 160, Slack: 14522})
	holdChunks(t, r, list(77, 2, 1, 2, 0, 1), list(79, 66, 3, 74))
}

func TestHeadersTellKindsAndTheOwner(t *testing.T) {
	s, _, _ := eight(t)
	for page, want := range map[int]header.Head{
		0: {Pages: 1}, 1: {Pages: 2, Next: 1}, 77: {Pages: 2, Next: 2},
		3: {Pages: 74, Kind: 1}, 79: {Pages: 66, Kind: 1, Next: 4},
	} {
		want.Owner = 9
		tells(t, s, page, want)
	}
	for _, owner := range []uint64{0, 1, 1<<32 - 1, 1 << 32, 1 << 63, top} {
		s := chunk.New(100)
		r := region.New(s, owner)
		made(t, r, 300000, 1, 32)
		made(t, r, 1, 1, 74*4096+32)
		tells(t, s, 0, header.Head{Pages: 74, Kind: 1, Owner: owner})
		tells(t, s, 74, header.Head{Pages: 1, Kind: 0, Owner: owner})
	}
}

func TestOneByteByOne(t *testing.T) {
	s := chunk.New(2)
	r := region.New(s, 0)
	for at := uint64(32); at < 4096; at++ {
		made(t, r, 1, 1, at)
	}
	stored(t, s, 5+1, list(1, 1), nil)
	holdMark(t, r, region.Mark{Chunks: 1, At: 4096, Objects: 4064})
	holdMeter(t, r, api.Meter{Held: 1, Objects: 4064, Headers: 32})
	holdFits(t, r, 1, 1, false)
	made(t, r, 1, 1, 4096+32)
	holdMeter(t, r, api.Meter{Held: 2, Objects: 4065, Headers: 64, Slack: 4063})
}

func TestAllAlignments(t *testing.T) {
	// Where one byte by each alignment begins, behind one that was made already.
	for i, want := range []uint64{33, 34, 36, 40, 48, 64, 64, 128, 256, 512, 1024, 2048, 2 * 4096} {
		r := region.New(chunk.New(5), 0)
		made(t, r, 1, 1, 32)
		made(t, r, 1, aligns[i], want)
		// As the first one of a chunk.
		first := max(32, aligns[i])
		r = region.New(chunk.New(5), 0)
		made(t, r, 1, aligns[i], first)
		holdMark(t, r, region.Mark{Chunks: 1, At: first + 1, Objects: 1, Padding: first - 32})
	}
}

func TestNoPaddingWhereItIsAligned(t *testing.T) {
	for _, align := range aligns[1:11] {
		r := region.New(chunk.New(1), 0)
		first := max(32, align)
		made(t, r, 1, align, first)
		made(t, r, align-1, 1, first+1)
		made(t, r, 1, align, first+align)
		holdMark(t, r, region.Mark{Chunks: 1, At: first + align + 1, Objects: align + 1, Padding: first - 32})
		made(t, r, 1, align, first+2*align)
		holdMark(t, r, region.Mark{Chunks: 1, At: first + 2*align + 1, Objects: align + 2, Padding: first - 32 + align - 1})
	}
}

func TestWhatJustFits(t *testing.T) {
	for _, begun := range []uint64{1, 7, 64, 1000, 4000, 4063, 4064} {
		for _, align := range aligns {
			start := begun + 32
			for start%align != 0 {
				start++
			}
			if start >= 4096 {
				r := region.New(chunk.New(9), 0)
				made(t, r, begun, 1, 32)
				holdFits(t, r, 1, align, false)
				continue
			}
			left := 4096 - start
			s := chunk.New(9)
			r := region.New(s, 0)
			made(t, r, begun, 1, 32)
			m := r.Mark()
			still(t, s, r, func() {
				holdFits(t, r, 1, align, true)
				holdFits(t, r, left, align, true)
				holdFits(t, r, left+1, align, false)
				holdFits(t, r, 0, align, false)
			})
			ticks := s.Ticks()
			made(t, r, left, align, start)
			stored(t, s, ticks, list(1, 8), nil)
			holdMark(t, r, region.Mark{Chunks: 1, At: 4096, Objects: begun + left, Padding: start - begun - 32})
			holdFits(t, r, 1, 1, false)
			// One more is behind another header.
			rewound(t, r, m)
			made(t, r, left+1, align, 4096+max(32, align))
			holdMark(t, r, region.Mark{Chunks: 2, At: 4096 + max(32, align) + left + 1, Objects: begun + left + 1, Padding: max(32, align) - 32})
		}
	}
}

func TestChunksAsGreatAsTheirClasses(t *testing.T) {
	for _, align := range aligns {
		first := max(32, align)
		for pages := 1; pages <= 64; pages *= 2 {
			size := uint64(pages)*4096 - first
			if size == 0 {
				continue
			}
			s := chunk.New(300)
			r := region.New(s, 3)
			made(t, r, size, align, first)
			holdChunks(t, r, list(0, pages), nil)
			holdMark(t, r, region.Mark{Chunks: 1, At: uint64(pages) * 4096, Objects: size, Padding: first - 32})
			holdMeter(t, r, api.Meter{Held: pages, Objects: size, Padding: first - 32, Headers: 32})
			holdReset(t, r, api.OK)
			s.Trim()
			// One more byte is in a chunk of the next class, or a large one.
			made(t, r, size+1, align, first)
			if pages == 64 {
				holdChunks(t, r, nil, list(0, 65))
				holdMark(t, r, region.Mark{Larges: 1, Objects: size + 1, Padding: first - 32})
				holdMeter(t, r, api.Meter{Held: 65, Objects: size + 1, Padding: first - 32, Headers: 32, Slack: 4095})
				continue
			}
			holdChunks(t, r, list(0, 2*pages), nil)
			holdMark(t, r, region.Mark{Chunks: 1, At: uint64(pages)*4096 + 1, Objects: size + 1, Padding: first - 32})
		}
	}
}

func TestLargeOnesOfAllAlignments(t *testing.T) {
	for _, align := range aligns {
		first := max(32, align)
		for _, pages := range []int{65, 66, 100, 127, 128, 129} {
			s := chunk.New(300)
			r := region.New(s, 3)
			// So that it doesn't begin at page 0.
			made(t, r, 1, 1, 32)
			size := uint64(pages)*4096 - first
			ticks := s.Ticks()
			made(t, r, size, align, 4096+first)
			stored(t, s, ticks+5+pages, list(1+pages, 299-pages), nil)
			holdChunks(t, r, list(0, 1), list(1, pages))
			holdMark(t, r, region.Mark{Chunks: 1, Larges: 1, At: 33, Objects: 1 + size, Padding: first - 32})
			holdMeter(t, r, api.Meter{Held: 1 + pages, Objects: 1 + size, Padding: first - 32, Headers: 64, Slack: 4063})
			made(t, r, size+1, align, uint64(1+pages)*4096+first)
			holdChunks(t, r, list(0, 1), list(1+pages, pages+1, 1, pages))
		}
	}
}

func TestALargeOneIsNotFitIn(t *testing.T) {
	s := chunk.New(300)
	r := region.New(s, 0)
	// Its chunk has room, but nothing else is made there.
	made(t, r, 65*4096, 1, 32)
	holdChunks(t, r, nil, list(0, 66))
	holdFits(t, r, 1, 1, false)
	made(t, r, 1, 1, 66*4096+32)
	holdChunks(t, r, list(66, 1), list(0, 66))
	// The cursor stays where it was.
	made(t, r, 65*4096, 1, 67*4096+32)
	holdFits(t, r, 4063, 1, true)
	made(t, r, 4063, 1, 66*4096+33)
	holdMark(t, r, region.Mark{Chunks: 1, Larges: 2, At: 67 * 4096, Objects: 2*65*4096 + 4064})
}

func TestBytesThatFitThoughTheyAreMany(t *testing.T) {
	s := chunk.New(300)
	r := region.New(s, 0)
	made(t, r, 33*4096, 1, 32)
	ticks := s.Ticks()
	made(t, r, 31*4096-32, 1, 33*4096+32)
	stored(t, s, ticks, list(64, 236), nil)
	holdMark(t, r, region.Mark{Chunks: 1, At: 64 * 4096, Objects: 64*4096 - 32})
}

func TestWhatIsLeftBelowIsNotLookedFor(t *testing.T) {
	s := chunk.New(300)
	r := region.New(s, 0)
	made(t, r, 10, 1, 32)
	made(t, r, 8000, 1, 4096+32)
	made(t, r, 500, 1, 3*4096+32)
	// The first chunk has room for them, the second one not.
	holdFits(t, r, 3000, 1, true)
	made(t, r, 3000, 1, 3*4096+532)
	holdFits(t, r, 600, 1, false)
	made(t, r, 600, 1, 4*4096+32)
	holdChunks(t, r, list(4, 1, 3, 1, 1, 2, 0, 1), nil)
}

func TestAllocOfWhatMayNotBe(t *testing.T) {
	s, r, _ := eight(t)
	none := region.New(s, 1)
	still(t, s, r, func() {
		for _, x := range []*region.Region{r, none} {
			for _, size := range append([]uint64{0, 1, 2, 64, 4064, 4065, 262112, 262113, 1 << 30}, tooGreat...) {
				for _, align := range wrongAligns {
					holdAlloc(t, x, size, align, 0, api.ErrArg)
					holdFits(t, x, size, align, false)
				}
			}
			for _, align := range aligns {
				holdAlloc(t, x, 0, align, 0, api.ErrArg)
				holdFits(t, x, 0, align, false)
			}
		}
	})
	empty(t, none)
	holdChunks(t, r, list(77, 2, 1, 2, 0, 1), list(79, 66, 3, 74))
}

func TestSizesThatAreTooGreat(t *testing.T) {
	s, r, marks := eight(t)
	// Some chunks are kept: no room is looked for, so they still are.
	rewound(t, r, marks[3])
	kept := list(77, 2, 1, 2)
	still(t, s, r, func() {
		for _, size := range tooGreat {
			for _, align := range aligns {
				holdFits(t, r, size, align, false)
				holdAlloc(t, r, size, align, 0, api.ErrFull)
			}
		}
		// With the alignment ahead of them they are too many.
		holdAlloc(t, r, 1<<32-32, 64, 0, api.ErrFull)
		holdAlloc(t, r, 1<<32-4095, 4096, 0, api.ErrFull)
	})
	stored(t, s, s.Ticks(), s.Runs(), kept)
	// Of as many pages as may be there might be room, but here there is none: what was kept is given back.
	holdAlloc(t, r, 1<<32-32, 1, 0, api.ErrFull)
	stored(t, s, s.Ticks(), list(1, 299), nil)
	holdMark(t, r, marks[3])
}

func TestAsManyPagesAsMayBe(t *testing.T) {
	s := chunk.New(api.MaxPages)
	r := region.New(s, 2)
	holdAlloc(t, r, 1<<32-31, 1, 0, api.ErrFull)
	empty(t, r)
	made(t, r, 1<<32-32, 1, 32)
	stored(t, s, 5+api.MaxPages, nil, nil)
	holdMark(t, r, region.Mark{Larges: 1, Objects: 1<<32 - 32})
	holdMeter(t, r, api.Meter{Held: api.MaxPages, Objects: 1<<32 - 32, Headers: 32})
	holdChunks(t, r, nil, list(0, api.MaxPages))
	holdAlloc(t, r, 1, 1, 0, api.ErrFull)
	holdReset(t, r, api.OK)
	made(t, r, 1<<32-4096, 4096, 4096)
	holdMark(t, r, region.Mark{Larges: 1, Objects: 1<<32 - 4096, Padding: 4064})
}

func TestAStoreThatIsFull(t *testing.T) {
	s := chunk.New(3)
	r, other := region.New(s, 0), region.New(s, 1)
	made(t, r, 1000, 1, 32)
	made(t, other, 1, 1, 4096+32)
	made(t, other, 4064, 1, 2*4096+32)
	still(t, s, r, func() {
		for _, size := range []uint64{3065, 4064, 4065, 262112, 262113, 1 << 31} {
			holdAlloc(t, r, size, 1, 0, api.ErrFull)
			holdAlloc(t, other, size, 4096, 0, api.ErrFull)
		}
		holdAlloc(t, other, 1, 1, 0, api.ErrFull)
		// Wrong arguments are told all the same.
		holdAlloc(t, r, 0, 1, 0, api.ErrArg)
		holdAlloc(t, r, 4064, 3, 0, api.ErrArg)
	})
	holdChunks(t, other, list(2, 1, 1, 1), nil)
	// What fits needs none.
	made(t, r, 3064, 1, 1032)
	holdAlloc(t, r, 1, 1, 0, api.ErrFull)
	holdMark(t, r, region.Mark{Chunks: 1, At: 4096, Objects: 4064})
}

func TestRoomBehindATrim(t *testing.T) {
	s := chunk.New(70)
	r := region.New(s, 0)
	made(t, r, 4064, 1, 32)
	m := r.Mark()
	made(t, r, 4065, 1, 4096+32)
	rewound(t, r, m)
	stored(t, s, s.Ticks(), list(3, 67), list(1, 2))
	holdAlloc(t, r, 69*4096-31, 1, 0, api.ErrFull)
	holdMark(t, r, m)
	stored(t, s, s.Ticks(), list(1, 69), nil)
	made(t, r, 4065, 1, 4096+32)
	rewound(t, r, m)
	ticks := s.Ticks()
	made(t, r, 69*4096-32, 1, 4096+32)
	// It was given back, 2, taken, 2, its header was laid and linked, 3, and its bytes were made 0.
	stored(t, s, ticks+7+69, nil, nil)
	holdChunks(t, r, list(0, 1), list(1, 69))
}

func TestChunksAreMadeZeroWhole(t *testing.T) {
	s, b := dirty(t, 80)
	r := region.New(s, 3)
	head := func(page, pages, kind, next int) {
		copy(b[page*api.Page:], "steading"+string([]byte{byte(pages), 0, 0, 0, byte(kind), 0, 0, 0, 3, 0, 0, 0, 0, 0, 0, 0, byte(next), 0, 0, 0, 0, 0, 0, 0}))
		clear(b[page*api.Page+api.Header : (page+pages)*api.Page])
		if !bytes.Equal(whole(t, s), b) {
			t.Fatalf("behind the chunk at page %d the bytes aren't what they should be", page)
		}
	}
	made(t, r, 5000, 1, 32)
	head(0, 2, 0, 0)
	made(t, r, 262113, 64, 2*4096+64)
	head(2, 65, 1, 0)
	made(t, r, 3*4096, 4096, 68*4096)
	head(67, 4, 0, 1)
	// What fits changes no byte.
	still(t, s, r, func() {
		m := r.Mark()
		holdFits(t, r, 10, 8, false)
		rewound(t, r, m)
	})
	made(t, r, 1, 1, 71*4096+32)
	head(71, 1, 0, 68)
	was := whole(t, s)
	made(t, r, 100, 64, 71*4096+64)
	if !bytes.Equal(whole(t, s), was) {
		t.Fatal("bytes are changed where nothing more was got")
	}
}

func TestAKeptChunkIsMadeZeroToo(t *testing.T) {
	s := chunk.New(4)
	r := region.New(s, 3)
	made(t, r, 4064, 1, 32)
	lay(t, s, 32, 4064, 'x')
	holdReset(t, r, api.OK)
	stored(t, s, s.Ticks(), list(1, 3), list(0, 1))
	if b := piece(t, s, 32, 4064); bytes.IndexByte(b, 0) >= 0 {
		t.Fatal("a chunk that is given up is made 0 only where it is got again")
	}
	ticks := s.Ticks()
	made(t, r, 1, 1, 32)
	// Its header is laid and linked, 3, and its bytes are made 0, 1.
	stored(t, s, ticks+4, list(1, 3), nil)
	isZero(t, s, 32, 4064)
}

func TestWhatFitsTicksNothing(t *testing.T) {
	s, r, _ := eight(t)
	ticks := s.Ticks()
	for i := range uint64(100) {
		at, err := r.Alloc(1+i%40, aligns[i%7])
		if err != api.OK || at%aligns[i%7] != 0 || at < 78*4096+30 {
			t.Fatalf("Alloc = %d, %v", at, err)
		}
		r.Fits(i, 8)
		r.Mark()
		r.Meter()
	}
	stored(t, s, ticks, list(145, 155), nil)
}

func TestFits(t *testing.T) {
	s, r, _ := eight(t)
	still(t, s, r, func() {
		// From 319518 up to 323584 there are 4066.
		for size, want := range map[uint64]bool{0: false, 1: true, 2: true, 4065: true, 4066: true, 4067: false, 8192: false, 1 << 32: false, top - 319518: false, top - 319517: false, top: false} {
			holdFits(t, r, size, 1, want)
			holdFits(t, r, size, 2, want)
		}
		// By 32 they begin at 319520, by 4096 at the end.
		holdFits(t, r, 4064, 32, true)
		holdFits(t, r, 4065, 32, false)
		holdFits(t, r, 1, 2048, true)
		holdFits(t, r, 2048, 2048, true)
		holdFits(t, r, 2049, 2048, false)
		holdFits(t, r, 1, 4096, false)
		for _, align := range wrongAligns {
			holdFits(t, r, 1, align, false)
		}
	})
	// An alignment that is too great fits nowhere, though a place with it is behind the cursor.
	s = chunk.New(64)
	r = region.New(s, 0)
	made(t, r, 8*4096, 1, 32)
	for _, align := range []uint64{8192, 16384, 32768} {
		holdFits(t, r, 1, align, false)
		holdAlloc(t, r, 1, align, 0, api.ErrArg)
	}
	holdFits(t, r, 1, 4096, true)
}

func TestFitsTellsWhetherAChunkMoreIsGot(t *testing.T) {
	s := chunk.New(2000)
	r, next := region.New(s, 0), chance(3)
	for range 500 {
		size, align := uint64(next(3000)), aligns[next(len(aligns))]
		fits, ticks := r.Fits(size, align), s.Ticks()
		if _, err := r.Alloc(size, align); (err == api.OK && s.Ticks() == ticks) != fits {
			t.Fatalf("Fits(%d, %d) = %v, but then it ticks %d: %v", size, align, fits, s.Ticks()-ticks, err)
		}
	}
}

// P15.2

func TestRewindToEachMark(t *testing.T) {
	marks := eightMarks()
	for i, m := range marks {
		s, r, _ := eight(t)
		rewound(t, r, m)
		held := []int{0, 1, 1, 1, 3, 77, 79, 145, 145}[i]
		chunks := uint64(m.Chunks + m.Larges)
		holdMeter(t, r, api.Meter{Held: held, Objects: m.Objects, Padding: m.Padding, Headers: 32 * chunks, Slack: uint64(held)*4096 - m.Objects - m.Padding - 32*chunks})
		holdChunks(t, r, list(77, 2, 1, 2, 0, 1)[3-m.Chunks:], list(79, 66, 3, 74)[2-m.Larges:])
		// Those behind it are stale now, unless they tell just of what is there.
		for _, later := range marks[i+1:] {
			still(t, s, r, func() { holdRewind(t, r, later, api.ErrStale) })
		}
		// Once more nothing is given up.
		still(t, s, r, func() { rewound(t, r, m) })
		for _, before := range slices.Backward(marks[:i]) {
			rewound(t, r, before)
		}
		empty(t, r)
		s.Trim()
		stored(t, s, s.Ticks(), list(0, 300), nil)
	}
}

func TestWhatARewindTicks(t *testing.T) {
	for i, want := range []struct {
		ticks      int
		runs, kept []api.Run
	}{
		// A large one is read and put, 4, and given back, 2, since one run is free; a shared one is read and put.
		{2*6 + 3*4, list(3, 74, 79, 221), list(0, 1, 77, 2, 1, 2)},
		// Bytes are made 0 in the first one.
		{2*6 + 2*4 + 1, list(3, 74, 79, 221), list(77, 2, 1, 2)},
		{2*6 + 2*4 + 1, list(3, 74, 79, 221), list(77, 2, 1, 2)},
		// There are none.
		{2*6 + 2*4, list(3, 74, 79, 221), list(77, 2, 1, 2)},
		{2*6 + 4, list(3, 74, 79, 221), list(77, 2)},
		{6 + 4, list(79, 221), list(77, 2)},
		{6 + 1, list(79, 221), nil},
		{1, list(145, 155), nil},
		{0, list(145, 155), nil},
	} {
		s, r, marks := eight(t)
		ticks := s.Ticks()
		rewound(t, r, marks[i])
		stored(t, s, ticks+want.ticks, want.runs, want.kept)
	}
}

func TestMarksAtTheirEdges(t *testing.T) {
	// The chunks' bytes begin at 32, 4128 and 315424; they were made up to 144, 9128 and 319518.
	for _, x := range []struct {
		chunks    int
		from, to  uint64
		wrongOnes []uint64
	}{
		{0, 0, 0, []uint64{1, 31, 32, 144, 4096, 319518, 1 << 63, top}},
		{1, 32, 144, []uint64{0, 1, 31, 145, 4096, 4128, 9128, 319518, 1 << 32, 1<<32 + 32, 1 << 63, top}},
		{2, 4128, 9128, []uint64{0, 32, 144, 4096, 4127, 9129, 12288, 319518, 1<<63 + 4128, top}},
		{3, 315424, 319518, []uint64{0, 32, 9128, 315392, 315423, 319519, 323584, 1<<52 + 315424, top}},
	} {
		s, r, _ := eight(t)
		still(t, s, r, func() {
			for _, at := range x.wrongOnes {
				for larges := range 3 {
					holdRewind(t, r, region.Mark{Chunks: x.chunks, Larges: larges, At: at, Objects: 575139, Padding: 4099}, api.ErrStale)
				}
			}
		})
		for _, at := range []uint64{x.from, x.from + (x.to-x.from)/2, x.to} {
			for larges := range 3 {
				_, r, _ := eight(t)
				rewound(t, r, region.Mark{Chunks: x.chunks, Larges: larges, At: at, Objects: 1, Padding: 2})
				holdChunks(t, r, list(77, 2, 1, 2, 0, 1)[3-x.chunks:], list(79, 66, 3, 74)[2-larges:])
			}
		}
	}
}

func TestMarksOfChunksThatAreNotThere(t *testing.T) {
	s, r, _ := eight(t)
	none := region.New(s, 0)
	still(t, s, r, func() {
		for _, n := range []int{-1, -2, -3, math.MinInt32, -1 << 32, math.MinInt + 1, math.MinInt, 4, 5, math.MaxInt32, 1 << 32, 1<<32 + 1, math.MaxInt} {
			for _, at := range []uint64{0, 32, 144, 4128, 9128, 315424, 319518} {
				holdRewind(t, r, region.Mark{Chunks: n, At: at}, api.ErrStale)
				holdRewind(t, r, region.Mark{Chunks: n, Larges: n, At: at}, api.ErrStale)
				holdRewind(t, none, region.Mark{Chunks: n, At: at}, api.ErrStale)
			}
			holdRewind(t, r, region.Mark{Larges: n}, api.ErrStale)
			holdRewind(t, r, region.Mark{Chunks: 1, Larges: n, At: 40}, api.ErrStale)
			holdRewind(t, none, region.Mark{Larges: n}, api.ErrStale)
		}
		holdRewind(t, r, region.Mark{Larges: 3}, api.ErrStale)
		holdRewind(t, none, region.Mark{Chunks: 1, At: 32}, api.ErrStale)
		holdRewind(t, none, region.Mark{Larges: 1}, api.ErrStale)
		holdRewind(t, none, region.Mark{At: 1}, api.ErrStale)
	})
	empty(t, none)
}

func TestAMarksSumsAreTaken(t *testing.T) {
	s, r, marks := eight(t)
	last := marks[8]
	// Nothing but the sums is changed.
	last.Objects, last.Padding = 7, top
	ticks := s.Ticks()
	rewound(t, r, last)
	stored(t, s, ticks, list(145, 155), nil)
	made(t, r, 3, 1, 319518)
	holdMark(t, r, region.Mark{Chunks: 3, Larges: 2, At: 319521, Objects: 10, Padding: top})
	made(t, r, 3, 4, 319524)
	holdMark(t, r, region.Mark{Chunks: 3, Larges: 2, At: 319527, Objects: 13, Padding: 2})
	rewound(t, r, region.Mark{Objects: 5, Padding: 6})
	holdMeter(t, r, api.Meter{Objects: 5, Padding: 6, Slack: top - 10})
	holdReset(t, r, api.OK)
	empty(t, r)
}

func TestRewoundBytesAreZero(t *testing.T) {
	s := chunk.New(9)
	r := region.New(s, 0)
	made(t, r, 3*4096, 1, 32)
	lay(t, s, 32, 3*4096, 'x')
	for _, at := range []uint64{3*4096 + 32, 3*4096 + 31, 3 * 4096, 3*4096 - 1, 4097, 4096, 4095, 100, 33, 32} {
		before, ticks := r.Mark(), s.Ticks()
		rewound(t, r, region.Mark{Chunks: 1, At: at, Objects: at - 32})
		// Just these are, and each page of theirs ticks.
		if at < before.At {
			ticks += int((before.At-1)/4096-at/4096) + 1
		}
		stored(t, s, ticks, list(4, 5), nil)
		isZero(t, s, at, 4*4096-at)
		if b := piece(t, s, 32, at-32); bytes.IndexByte(b, 0) >= 0 {
			t.Fatalf("a byte ahead of %d is 0", at)
		}
	}
	holdChunks(t, r, list(0, 4), nil)
}

func TestJustTheBytesThatWereMadeAreZero(t *testing.T) {
	s := chunk.New(9)
	r := region.New(s, 0)
	made(t, r, 10, 1, 32)
	m := r.Mark()
	made(t, r, 10, 1, 42)
	made(t, r, 5000, 1, 4096+32)
	// By hand: ahead of the mark, behind the cursor, and in the chunk that is given up.
	lay(t, s, 32, 4064, 'x')
	lay(t, s, 4096+32, 8160, 'y')
	rewound(t, r, m)
	want := append(bytes.Repeat([]byte{'x'}, 10), make([]byte, 10)...)
	want = append(want, bytes.Repeat([]byte{'x'}, 4044)...)
	if !bytes.Equal(piece(t, s, 32, 4064), want) {
		t.Error("the first chunk's bytes aren't what they should be")
	}
	if !bytes.Equal(piece(t, s, 4096+32, 8160), bytes.Repeat([]byte{'y'}, 8160)) {
		t.Error("the second chunk's bytes aren't what they should be")
	}
}

func TestAChunkBelowIsGoneOnWith(t *testing.T) {
	s := chunk.New(9)
	r := region.New(s, 0)
	made(t, r, 1000, 1, 32)
	m := r.Mark()
	made(t, r, 4000, 1, 4096+32)
	made(t, r, 4000, 1, 2*4096+32)
	rewound(t, r, m)
	made(t, r, 3064, 1, 1032)
	rewound(t, r, m)
	made(t, r, 3063, 2, 1032)
	holdFits(t, r, 1, 1, true)
	holdFits(t, r, 2, 1, false)
	// The one that was given up last is got first.
	made(t, r, 2, 1, 4096+32)
	holdChunks(t, r, list(1, 1, 0, 1), nil)
}

func TestAMarkThatIsRightAgain(t *testing.T) {
	s := chunk.New(9)
	r := region.New(s, 0)
	made(t, r, 100, 1, 32)
	m := r.Mark()
	made(t, r, 100, 1, 132)
	later := r.Mark()
	rewound(t, r, m)
	still(t, s, r, func() { holdRewind(t, r, later, api.ErrStale) })
	// It tells of places alone: behind other bytes it is one of them.
	made(t, r, 150, 1, 132)
	rewound(t, r, later)
	made(t, r, 4000, 1, 4096+32)
	rewound(t, r, later)
	holdReset(t, r, api.OK)
	still(t, s, r, func() { holdRewind(t, r, later, api.ErrStale); holdRewind(t, r, m, api.ErrStale) })
	made(t, region.New(s, 1), 1, 1, 32)
	made(t, r, 200, 1, 4096+32)
	still(t, s, r, func() { holdRewind(t, r, later, api.ErrStale); holdRewind(t, r, m, api.ErrStale) })
}

func TestReset(t *testing.T) {
	s, r, _ := eight(t)
	ticks := s.Ticks()
	holdReset(t, r, api.OK)
	empty(t, r)
	stored(t, s, ticks+2*6+3*4, list(3, 74, 79, 221), list(0, 1, 77, 2, 1, 2))
	still(t, s, r, func() { holdReset(t, r, api.OK) })
	made(t, r, 5000, 1, 4096+32)
	tells(t, s, 1, header.Head{Pages: 2, Owner: 9})
	holdReset(t, r, api.OK)
	s.Trim()
	stored(t, s, s.Ticks(), list(0, 300), nil)
}

func TestLargeOnesAreCutFirst(t *testing.T) {
	// Pages 0 to 4 are shared chunks, 5 to 69 a large one, and the last two are taken.
	s := chunk.New(72)
	r, other := region.New(s, 0), region.New(s, 1)
	for page := range uint64(5) {
		made(t, r, 4064, 1, page*4096+32)
	}
	made(t, r, 65*4096-32, 1, 5*4096+32)
	made(t, other, 8000, 1, 70*4096+32)
	ticks := s.Ticks()
	holdReset(t, r, api.OK)
	// The large one is given back where nothing is free, 1; then the fifth one of its class, 2, beside it: no run is more.
	stored(t, s, ticks+6*4+1+2, list(0, 1, 5, 65), list(4, 1, 3, 1, 2, 1, 1, 1))
}

// P15.3

func TestMeterOfEach(t *testing.T) {
	s := chunk.New(300)
	r := region.New(s, 0)
	for _, x := range []struct {
		size, align uint64
		want        api.Meter
	}{
		{10, 8, api.Meter{Held: 1, Objects: 10, Headers: 32, Slack: 4054}},
		{4, 64, api.Meter{Held: 1, Objects: 14, Padding: 22, Headers: 32, Slack: 4028}},
		{5000, 1, api.Meter{Held: 3, Objects: 5014, Padding: 22, Headers: 64, Slack: 7188}},
		{70 * 4096, 256, api.Meter{Held: 74, Objects: 291734, Padding: 246, Headers: 96, Slack: 11028}},
		{1, 4096, api.Meter{Held: 76, Objects: 291735, Padding: 4310, Headers: 128, Slack: 15123}},
	} {
		if _, err := r.Alloc(x.size, x.align); err != api.OK {
			t.Fatal(err)
		}
		holdMeter(t, r, x.want)
	}
	holdAlloc(t, r, 0, 1, 0, api.ErrArg)
	holdAlloc(t, r, 1<<40, 1, 0, api.ErrFull)
	holdMeter(t, r, api.Meter{Held: 76, Objects: 291735, Padding: 4310, Headers: 128, Slack: 15123})
}

func TestMetersOfManyRegions(t *testing.T) {
	s := chunk.New(100)
	a, b := region.New(s, 1), region.New(s, 1)
	made(t, a, 10, 1, 32)
	made(t, b, 20, 1, 4096+32)
	made(t, a, 5000, 1, 2*4096+32)
	made(t, b, 65*4096, 1, 4*4096+32)
	holdMeter(t, a, api.Meter{Held: 3, Objects: 5010, Headers: 64, Slack: 3*4096 - 5074})
	holdMeter(t, b, api.Meter{Held: 67, Objects: 65*4096 + 20, Headers: 64, Slack: 2*4096 - 84})
	// What is free, and what is kept, is none of theirs.
	holdReset(t, a, api.OK)
	empty(t, a)
	holdMeter(t, b, api.Meter{Held: 67, Objects: 65*4096 + 20, Headers: 64, Slack: 2*4096 - 84})
	holdChunks(t, b, list(1, 1), list(4, 66))
}

func TestSlackGoesRound(t *testing.T) {
	_, r, _ := eight(t)
	rewound(t, r, region.Mark{Chunks: 1, At: 40, Objects: 4064})
	holdMeter(t, r, api.Meter{Held: 1, Objects: 4064, Headers: 32})
	rewound(t, r, region.Mark{Chunks: 1, At: 40, Objects: 4064, Padding: 1})
	holdMeter(t, r, api.Meter{Held: 1, Objects: 4064, Padding: 1, Headers: 32, Slack: top})
	rewound(t, r, region.Mark{Chunks: 1, At: 40, Objects: top, Padding: top})
	holdMeter(t, r, api.Meter{Held: 1, Objects: top, Padding: top, Headers: 32, Slack: 4066})
	rewound(t, r, region.Mark{Chunks: 1, At: 40, Objects: 1 << 63, Padding: 1 << 63})
	holdMeter(t, r, api.Meter{Held: 1, Objects: 1 << 63, Padding: 1 << 63, Headers: 32, Slack: 4064})
	// Nor are sums kept from going round.
	rewound(t, r, region.Mark{Chunks: 1, At: 40, Objects: top - 4, Padding: top - 5})
	made(t, r, 8, 32, 64)
	holdMark(t, r, region.Mark{Chunks: 1, At: 72, Objects: 3, Padding: 18})
}

func TestChunksAreReadFromHeaders(t *testing.T) {
	s, r, _ := eight(t)
	ticks := s.Ticks()
	holdChunks(t, r, list(77, 2, 1, 2, 0, 1), list(79, 66, 3, 74))
	stored(t, s, ticks+5, list(145, 155), nil)
	meter, m := r.Meter(), r.Mark()
	if err := header.Write(s.Space(), 1, header.Head{Pages: 5, Next: 1}); err != api.OK {
		t.Fatal(err)
	}
	holdChunks(t, r, list(77, 2, 1, 5, 0, 1), list(79, 66, 3, 74))
	lay(t, s, 3*4096, 1, 'S')
	holdChunks(t, r, list(77, 2, 1, 5, 0, 1), nil)
	lay(t, s, 3*4096, 1, 's')
	lay(t, s, 77*4096, 1, 'S')
	holdChunks(t, r, nil, list(79, 66, 3, 74))
	// The meter, and the mark, don't go by them.
	holdMeter(t, r, meter)
	holdMark(t, r, m)
}

func TestChunksListsMayBeChanged(t *testing.T) {
	_, r, marks := eight(t)
	shared, large := r.Chunks()
	again, alone := r.Chunks()
	clear(shared)
	clear(large)
	shared = append(shared[:1], list(9, 9, 8, 8)...)
	large = append(large[:1], list(9, 9)...)
	holdChunks(t, r, list(77, 2, 1, 2, 0, 1), list(79, 66, 3, 74))
	holdMark(t, r, marks[8])
	made(t, r, 1, 1, 319518)
	rewound(t, r, marks[4])
	holdChunks(t, r, list(1, 2, 0, 1), nil)
	// Nor is what was told changed by what comes later.
	if !slices.Equal(again, list(77, 2, 1, 2, 0, 1)) || !slices.Equal(alone, list(79, 66, 3, 74)) {
		t.Errorf("the lists are %v, %v later", again, alone)
	}
	if shared[1] != (api.Run{Page: 9, Pages: 9}) || large[1] != (api.Run{Page: 9, Pages: 9}) {
		t.Errorf("the lists that were changed are %v, %v later", shared, large)
	}
}

// P15.4

func TestNilRegion(t *testing.T) {
	var r *region.Region
	for range 2 {
		for _, size := range append([]uint64{0, 1, 4064, 262113}, tooGreat...) {
			for _, align := range append(slices.Clone(aligns), wrongAligns...) {
				holdAlloc(t, r, size, align, 0, api.ErrArg)
				holdFits(t, r, size, align, false)
			}
		}
		for _, m := range append(eightMarks(), region.Mark{Chunks: -1}, region.Mark{At: 1}, region.Mark{Objects: 3, Padding: 4}) {
			holdRewind(t, r, m, api.ErrStale)
		}
		holdReset(t, r, api.ErrStale)
		empty(t, r)
	}
}

func TestRegionOfANilStore(t *testing.T) {
	r := region.New(nil, 3)
	for range 2 {
		for _, size := range []uint64{1, 4064, 4065, 262112, 262113, 1<<32 - 4096} {
			for _, align := range aligns {
				// That is what its piles tell.
				holdAlloc(t, r, size, align, 0, api.ErrArg)
				holdFits(t, r, size, align, false)
			}
		}
		holdAlloc(t, r, 0, 1, 0, api.ErrArg)
		holdAlloc(t, r, top, 3, 0, api.ErrArg)
		holdAlloc(t, r, top, 1, 0, api.ErrFull)
		for _, m := range eightMarks()[1:] {
			holdRewind(t, r, m, api.ErrStale)
		}
		holdRewind(t, r, region.Mark{}, api.OK)
		holdReset(t, r, api.OK)
		empty(t, r)
	}
}

func TestHeadersThatWereSpoiledByHand(t *testing.T) {
	for _, page := range []uint64{0, 1, 3, 77, 79} {
		for i, m := range eightMarks() {
			s, r, marks := eight(t)
			lay(t, s, page*4096, 1, 0)
			// Nothing panics, whatever it tells, and what comes later ends, too.
			r.Rewind(m)
			r.Chunks()
			for _, other := range marks {
				r.Rewind(other)
				r.Alloc(uint64(1000*i), 8)
				r.Alloc(70*4096, 8)
				r.Meter()
			}
			lay(t, s, page*4096, 1, 's')
			r.Reset()
			r.Chunks()
		}
	}
}

func TestARewindThatEndsAtASpoiledHeader(t *testing.T) {
	s, r, marks := eight(t)
	lay(t, s, 4096, 1, 0)
	holdRewind(t, r, marks[1], api.ErrBad)
	// What is above it is gone, and what is left is told right.
	holdMark(t, r, region.Mark{Chunks: 2, At: 9128, Objects: 575139, Padding: 4099})
	made(t, r, 4, 8, 9128)
	holdReset(t, r, api.ErrBad)
	lay(t, s, 4096, 1, 's')
	rewound(t, r, marks[4])
	rewound(t, r, marks[1])
	// So it is with the large ones.
	s, r, marks = eight(t)
	lay(t, s, 3*4096, 1, 0)
	holdRewind(t, r, marks[4], api.ErrBad)
	holdMark(t, r, region.Mark{Chunks: 3, Larges: 1, At: 319518, Objects: 575139, Padding: 4099})
	lay(t, s, 3*4096, 1, 's')
	holdReset(t, r, api.OK)
	empty(t, r)
}

func TestChunksThatAreGivenBackByHand(t *testing.T) {
	for _, page := range []int{0, 1, 3, 77, 79} {
		s, r, marks := eight(t)
		if err := s.Put(page); err != api.OK {
			t.Fatal(err)
		}
		for _, m := range slices.Backward(marks) {
			r.Alloc(100, 8)
			r.Rewind(m)
			r.Alloc(5000, 8)
			r.Chunks()
			r.Meter()
		}
		r.Reset()
	}
}

// P15.5

// room is a chunk of a plain region: its pages, and where the next bytes are made.
type room struct {
	page, pages int
	at          uint64
}

// thing is some bytes that were made, in a chunk of a kind, of that number, and what was laid into them.
type thing struct {
	start, size uint64
	kind, chunk int
	value       byte
}

// plain is what a Region is held against: two lists of chunks, the last one on top, of a Store of the test's own.
type plain struct {
	s                *chunk.Store
	owner            uint64
	rooms            [2][]room
	objects, padding uint64
	things           []thing
}

// up is the first place from one on that is aligned.
func up(at, align uint64) uint64 {
	for at%align != 0 {
		at++
	}
	return at
}

// last is the shared chunk on top.
func (p *plain) last() *room { return &p.rooms[0][len(p.rooms[0])-1] }

func (p *plain) fits(size, align uint64) bool {
	if size == 0 || !slices.Contains(aligns, align) || len(p.rooms[0]) == 0 {
		return false
	}
	end := uint64(p.last().page+p.last().pages) * 4096
	start := up(p.last().at, align)
	return start <= end && size <= end-start
}

// pages is how many pages are asked for, and of what kind.
func (p *plain) pages(size, align uint64) (int, int) {
	n := int((up(32, align) + size + 4095) / 4096)
	if n > 64 {
		return n, 1
	}
	for class := 1; ; class *= 2 {
		if class >= n {
			return class, 0
		}
	}
}

// get lays a chunk on one of the lists.
func (p *plain) get(pages, kind int) api.Errno {
	page, n, err := p.s.Get(pages, kind, p.owner)
	if err != api.OK {
		return err
	}
	next, l := 0, p.rooms[kind]
	if len(l) > 0 {
		next = l[len(l)-1].page + 1
	}
	header.Link(p.s.Space(), page, uint64(next))
	first := uint64(page)*4096 + 32
	p.s.Space().Zero(first, uint64(n)*4096-32)
	p.rooms[kind] = append(slices.Clone(l), room{page: page, pages: n, at: first})
	return api.OK
}

func (p *plain) alloc(size, align uint64) (uint64, api.Errno) {
	if size == 0 || !slices.Contains(aligns, align) {
		return 0, api.ErrArg
	}
	kind := 0
	if !p.fits(size, align) {
		if size > 1<<32 || up(32, align)+size > 1<<32 {
			return 0, api.ErrFull
		}
		var pages int
		pages, kind = p.pages(size, align)
		if err := p.get(pages, kind); err != api.OK {
			return 0, err
		}
	}
	number := len(p.rooms[kind]) - 1
	on := &p.rooms[kind][number]
	start := up(on.at, align)
	p.padding += start - on.at
	p.objects += size
	on.at = start + size
	p.things = append(slices.Clone(p.things), thing{start: start, size: size, kind: kind, chunk: number})
	return start, api.OK
}

func (p *plain) mark() region.Mark {
	m := region.Mark{Chunks: len(p.rooms[0]), Larges: len(p.rooms[1]), Objects: p.objects, Padding: p.padding}
	if m.Chunks > 0 {
		m.At = p.last().at
	}
	return m
}

// put gives the chunks of a list up, the last one first, down to so many.
func (p *plain) put(kind, n int) {
	for len(p.rooms[kind]) > n {
		l := p.rooms[kind]
		page := l[len(l)-1].page
		header.Read(p.s.Space(), page)
		p.s.Put(page)
		p.rooms[kind] = slices.Clone(l[:len(l)-1])
	}
}

func (p *plain) rewind(m region.Mark) api.Errno {
	if m.Chunks < 0 || m.Larges < 0 || m.Chunks > len(p.rooms[0]) || m.Larges > len(p.rooms[1]) || m.Chunks == 0 && m.At != 0 {
		return api.ErrStale
	}
	if m.Chunks > 0 {
		c := p.rooms[0][m.Chunks-1]
		if m.At < uint64(c.page)*4096+32 || m.At > c.at {
			return api.ErrStale
		}
	}
	p.put(1, m.Larges)
	p.put(0, m.Chunks)
	if m.Chunks > 0 && p.last().at > m.At {
		p.s.Space().Zero(m.At, p.last().at-m.At)
		p.last().at = m.At
	}
	p.objects, p.padding = m.Objects, m.Padding
	var left []thing
	for _, x := range p.things {
		if x.kind == 1 && x.chunk < m.Larges || x.kind == 0 && (x.chunk < m.Chunks-1 || x.chunk == m.Chunks-1 && x.start+x.size <= m.At) {
			left = append(left, x)
		}
	}
	p.things = left
	return api.OK
}

// runs are a list's chunks, the last one first; each one's header is read.
func (p *plain) runs(kind int) []api.Run {
	var l []api.Run
	for _, c := range slices.Backward(p.rooms[kind]) {
		header.Read(p.s.Space(), c.page)
		l = append(l, api.Run{Page: c.page, Pages: c.pages})
	}
	return l
}

func (p *plain) meter() api.Meter {
	m := api.Meter{Objects: p.objects, Padding: p.padding}
	for _, l := range p.rooms {
		for _, c := range l {
			m.Held += c.pages
			m.Headers += 32
		}
	}
	m.Slack = uint64(m.Held)*4096 - m.Objects - m.Padding - m.Headers
	return m
}

// turns are regions of one Store, and what they are held against.
type turns struct {
	s, twin *chunk.Store
	regions []*region.Region
	plains  []*plain
}

// newTurns is so many regions of a Store of so many pages.
func newTurns(pages, regions int) *turns {
	x := &turns{s: chunk.New(pages), twin: chunk.New(pages)}
	for i := range regions {
		x.regions = append(x.regions, region.New(x.s, uint64(100+i)))
		x.plains = append(x.plains, &plain{s: x.twin, owner: uint64(100 + i)})
	}
	return x
}

// alloc makes bytes, which are 0, and lays others into them.
func (x *turns) alloc(t *testing.T, i int, size, align uint64, value byte) {
	t.Helper()
	p := x.plains[i]
	fits := p.fits(size, align)
	holdFits(t, x.regions[i], size, align, fits)
	ticks := x.s.Ticks()
	at, err := p.alloc(size, align)
	holdAlloc(t, x.regions[i], size, align, at, err)
	if fits && x.s.Ticks() != ticks {
		t.Fatalf("%d bytes that fit tick %d", size, x.s.Ticks()-ticks)
	}
	if err != api.OK || size > api.MaxBytes {
		return
	}
	b, err := x.s.Space().Load(at, size)
	if err != api.OK || bytes.Count(b, []byte{0}) != len(b) {
		t.Fatalf("%d bytes that were made at %d aren't 0: %v", size, at, err)
	}
	x.twin.Space().Load(at, size)
	lay(t, x.s, at, size, value)
	lay(t, x.twin, at, size, value)
	p.things[len(p.things)-1].value = value
}

func (x *turns) rewind(t *testing.T, i int, m region.Mark) {
	t.Helper()
	holdRewind(t, x.regions[i], m, x.plains[i].rewind(m))
}

func (x *turns) reset(t *testing.T, i int) {
	t.Helper()
	holdReset(t, x.regions[i], x.plains[i].rewind(region.Mark{}))
}

// hold fails, unless all regions, and their Store, are as the plain ones are.
func (x *turns) hold(t *testing.T) {
	t.Helper()
	free, _ := x.s.Free()
	for _, r := range x.s.Cached() {
		free += r.Pages
	}
	for i, r := range x.regions {
		p := x.plains[i]
		holdMark(t, r, p.mark())
		holdMeter(t, r, p.meter())
		holdChunks(t, r, p.runs(0), p.runs(1))
		free += r.Meter().Held
	}
	stored(t, x.s, x.twin.Ticks(), x.twin.Runs(), x.twin.Cached())
	if free != x.s.Space().Pages() {
		t.Fatalf("%d pages in all", free)
	}
}

// holdBytes fails, unless all bytes are as the plain ones are, and what was made, and not given up, lies apart, within its chunk behind the header, as it was laid.
func (x *turns) holdBytes(t *testing.T) {
	t.Helper()
	is, want := x.s.Space().Clone(), x.twin.Space().Clone()
	for at := uint64(0); at < want.Size(); at += api.Page {
		b, _ := is.Load(at, api.Page)
		if w, _ := want.Load(at, api.Page); !bytes.Equal(b, w) {
			t.Fatalf("the bytes of page %d aren't what they should be", at/api.Page)
		}
	}
	var all []thing
	for i, p := range x.plains {
		shared, large := x.regions[i].Chunks()
		p.runs(0)
		p.runs(1)
		for _, o := range p.things {
			l := [][]api.Run{shared, large}[o.kind]
			c := l[len(l)-1-o.chunk]
			if first := uint64(c.Page) * 4096; o.start < first+32 || o.start+o.size > first+uint64(c.Pages)*4096 {
				t.Fatalf("%+v isn't within its chunk %v", o, c)
			}
			b, _ := is.Load(o.start, o.size)
			if bytes.Count(b, []byte{o.value}) != len(b) {
				t.Fatalf("%+v has other bytes", o)
			}
		}
		all = append(all, p.things...)
	}
	slices.SortFunc(all, func(a, b thing) int { return int(a.start) - int(b.start) })
	for i := 1; i < len(all); i++ {
		if all[i-1].start+all[i-1].size > all[i].start {
			t.Fatalf("%+v and %+v overlap", all[i-1], all[i])
		}
	}
}

func TestAllOrdersOfAFewCalls(t *testing.T) {
	calls := []func(*testing.T, *turns, *region.Mark){
		func(t *testing.T, x *turns, m *region.Mark) { x.alloc(t, 0, 1500, 1, 'a') },
		func(t *testing.T, x *turns, m *region.Mark) { x.alloc(t, 0, 3000, 64, 'b') },
		func(t *testing.T, x *turns, m *region.Mark) { x.alloc(t, 0, 65*4096-32, 8, 'c') },
		func(t *testing.T, x *turns, m *region.Mark) { x.alloc(t, 1, 5000, 8, 'd') },
		func(t *testing.T, x *turns, m *region.Mark) { *m = x.regions[0].Mark() },
		func(t *testing.T, x *turns, m *region.Mark) { x.rewind(t, 0, *m) },
		func(t *testing.T, x *turns, m *region.Mark) { x.reset(t, 0) },
	}
	const steps = 4
	for order := range 7 * 7 * 7 * 7 {
		x, m := newTurns(70, 2), region.Mark{}
		for range steps {
			calls[order%7](t, x, &m)
			order /= 7
		}
		x.hold(t)
	}
}

// near is a mark, or one beside it.
func near(m region.Mark, next func(int) int) region.Mark {
	switch next(8) {
	case 0:
		m.At += uint64(next(3)) - 1
	case 1:
		m.Chunks += next(3) - 1
	case 2:
		m.Larges += next(3) - 1
	case 3:
		m.At -= uint64(next(200))
		m.Objects++
	}
	return m
}

// sizeOf is a size, of most bytes now and then, and small ones else.
func sizeOf(next func(int) int, most int) uint64 {
	switch next(10) {
	case 0:
		return uint64(next(most + 1))
	case 1:
		return uint64(next(5000))
	case 2:
		return uint64(4096*(1+next(3)) - 33 + next(3))
	default:
		return uint64(next(300))
	}
}

// walked goes many steps on some regions of one Store, and holds each.
func walked(t *testing.T, seed uint64, pages, regions, steps, most int) {
	t.Helper()
	x, next := newTurns(pages, regions), chance(seed)
	marks := make([][]region.Mark, regions)
	for step := range steps {
		i := next(regions)
		switch next(20) {
		default:
			align := aligns[next(7)]
			if next(4) == 0 {
				align = aligns[next(len(aligns))]
			}
			x.alloc(t, i, sizeOf(next, most), align, byte(1+next(255)))
		case 0, 1, 2:
			marks[i] = append(marks[i], x.regions[i].Mark())
		case 3, 4:
			if n := len(marks[i]); n > 0 {
				x.rewind(t, i, near(marks[i][n-1-next(min(n, 6))], next))
			}
		case 5:
			if next(4) == 0 {
				x.reset(t, i)
			}
		case 6:
			if got, want := x.s.Trim(), x.twin.Trim(); got != want {
				t.Fatalf("Trim() = %d, want %d", got, want)
			}
		case 7:
			x.alloc(t, i, tooGreat[next(len(tooGreat))], aligns[next(len(aligns))], 'x')
			x.alloc(t, i, 1, wrongAligns[next(len(wrongAligns))], 'x')
		}
		x.hold(t)
		if step%25 == 0 {
			x.holdBytes(t)
		}
	}
	x.holdBytes(t)
	for i, r := range x.regions {
		x.reset(t, i)
		empty(t, r)
	}
	x.hold(t)
	x.s.Trim()
	if runs := x.s.Runs(); !slices.Equal(runs, list(0, pages)) {
		t.Fatalf("all is given up, but the free runs are %v", runs)
	}
}

func TestManySteps(t *testing.T) {
	for seed := range uint64(4) {
		walked(t, seed, 300, 1, 400, 90*4096)
		walked(t, seed+10, 12, 1, 400, 4*4096)
		walked(t, seed+20, 300, 2, 400, 90*4096)
		walked(t, seed+30, 40, 3, 400, 8*4096)
		walked(t, seed+40, 200, 5, 400, 20*4096)
	}
}

func TestBytesAreZeroWhereOthersWereGivenUp(t *testing.T) {
	s := chunk.New(12)
	a, b := region.New(s, 1), region.New(s, 2)
	for round := range uint64(30) {
		for i, r := range []*region.Region{a, b} {
			m := r.Mark()
			for _, size := range []uint64{10 + round, 700, 1 + 3*round, 4000, 3000} {
				at, err := r.Alloc(size, aligns[(round+size)%10])
				if err != api.OK {
					t.Fatal(err)
				}
				isZero(t, s, at, size)
				lay(t, s, at, size, byte(1+i))
			}
			if round%3 != 2 {
				rewound(t, r, m)
			} else {
				holdReset(t, r, api.OK)
			}
		}
	}
}

func TestRegionsOfOneStorePlayNoPartForOneAnother(t *testing.T) {
	x := newTurns(200, 2)
	for i := range 6 {
		x.alloc(t, i%2, 3000, 8, byte(1+i))
		x.alloc(t, 1-i%2, 5000, 8, byte(11+i))
	}
	x.alloc(t, 0, 66*4096, 8, 21)
	m := x.regions[1].Mark()
	x.reset(t, 0)
	x.hold(t)
	x.holdBytes(t)
	holdMark(t, x.regions[1], m)
	empty(t, x.regions[0])
	// What one gave up the other one may get.
	for i := range 6 {
		x.alloc(t, 1, 5000, 8, byte(31+i))
	}
	x.hold(t)
	x.holdBytes(t)
}

func TestTwiceTheSame(t *testing.T) {
	x, y := newTurns(60, 2), newTurns(60, 2)
	for _, z := range []*turns{x, y} {
		next := chance(5)
		for range 200 {
			i := next(2)
			switch next(5) {
			case 0:
				m := z.regions[i].Mark()
				z.alloc(t, i, uint64(next(9000)), aligns[next(8)], 'q')
				z.rewind(t, i, m)
			default:
				z.alloc(t, i, uint64(next(2000)), aligns[next(8)], 'r')
			}
		}
		z.hold(t)
		z.holdBytes(t)
	}
	stored(t, x.s, y.s.Ticks(), y.s.Runs(), y.s.Cached())
	for i := range 2 {
		holdMark(t, x.regions[i], y.regions[i].Mark())
		holdMeter(t, x.regions[i], y.regions[i].Meter())
	}
	if !bytes.Equal(whole(t, x.s), whole(t, y.s)) {
		t.Error("the bytes are others")
	}
}

// The signatures, of which the compiler tells.
var (
	_ func(*chunk.Store, uint64) *region.Region                = region.New
	_ func(*region.Region, uint64, uint64) (uint64, api.Errno) = (*region.Region).Alloc
	_ func(*region.Region, uint64, uint64) bool                = (*region.Region).Fits
	_ func(*region.Region) region.Mark                         = (*region.Region).Mark
	_ func(*region.Region, region.Mark) api.Errno              = (*region.Region).Rewind
	_ func(*region.Region) api.Errno                           = (*region.Region).Reset
	_ func(*region.Region) api.Meter                           = (*region.Region).Meter
	_ func(*region.Region) ([]api.Run, []api.Run)              = (*region.Region).Chunks
	_                                                          = region.Mark(struct {
		Chunks, Larges   int
		At               uint64
		Objects, Padding uint64
	}{})
)
