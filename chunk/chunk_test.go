package chunk_test

import (
	"bytes"
	"math"
	"slices"
	"testing"

	"steading/api"
	"steading/chunk"
	"steading/header"
	"steading/space"
)

const top = ^uint64(0)

// pagesOf is how many pages each class's chunks have.
var pagesOf = [7]int{1, 2, 4, 8, 16, 32, 64}

// wrongPages are numbers of pages that no chunk may have; some of them would be right if they lost bits.
var wrongPages = []int{0, -1, -2, -64, -api.MaxPages, math.MinInt32, -1<<32 + 1, math.MinInt + 1, math.MinInt, api.MaxPages + 1, api.MaxPages + 64, 2 * api.MaxPages, math.MaxInt32, 1 << 32, 1<<32 + 1, 1 << 62, math.MaxInt - 1, math.MaxInt}

// wrongKinds are numbers of no kind; some of them would be one if they lost bits.
var wrongKinds = []int{-1, -2, -255, -256, math.MinInt32, -1 << 32, math.MinInt + 1, math.MinInt, 256, 257, 511, 512, 1 << 16, math.MaxInt32, 1 << 32, 1<<32 + 1, 1 << 62, math.MaxInt - 1, math.MaxInt}

// beyond are pages that aren't in a space of so many: also such whose place, if it went round, would be in it.
func beyond(pages int) []int {
	return []int{-1, -2, -pages, pages, pages + 1, 2*pages + 3, api.MaxPages, api.MaxPages + 1, 1 << 32, 1 << 51, 1<<52 - 1, 1 << 52, 1<<52 + 1, 1 << 62, -1 << 52, 1 - 1<<52, math.MaxInt - 1, math.MaxInt, math.MinInt, math.MinInt + 1}
}

// list is runs by pairs: where each begins, and how many pages it has.
func list(pairs ...int) []api.Run {
	var l []api.Run
	for i := 0; i < len(pairs); i += 2 {
		l = append(l, api.Run{Page: pairs[i], Pages: pairs[i+1]})
	}
	return l
}

// sum is how many pages runs have.
func sum(l []api.Run) int {
	n := 0
	for _, r := range l {
		n += r.Pages
	}
	return n
}

// plain is the pages one by one, the chunks that were got and not put, those that are kept, and what was ticked: what a Store is held against.
type plain struct {
	free  []bool
	got   map[int]header.Head
	kept  [7][]int
	ticks int
}

func newPlain(pages int) *plain {
	return &plain{free: slices.Repeat([]bool{true}, pages), got: map[int]header.Head{}}
}

// runs are the free pages that lie beside each other.
func (m *plain) runs() []api.Run {
	var l []api.Run
	for page, free := range m.free {
		if !free {
			continue
		}
		if page > 0 && m.free[page-1] {
			l[len(l)-1].Pages++
		} else {
			l = append(l, api.Run{Page: page, Pages: 1})
		}
	}
	return l
}

// cached are the chunks that are kept.
func (m *plain) cached() []api.Run {
	var l []api.Run
	for class, pages := range m.kept {
		for _, page := range pages {
			l = append(l, api.Run{Page: page, Pages: pagesOf[class]})
		}
	}
	return l
}

// mark makes pages free, or not, and ticks for it.
func (m *plain) mark(page, n int, free bool) {
	m.ticks += 1 + len(m.runs())
	for i := page; i < page+n; i++ {
		m.free[i] = free
	}
}

// take is the first page of the shortest run that is long enough; false: there is none.
func (m *plain) take(n int) (int, bool) {
	best := api.Run{Pages: math.MaxInt}
	for _, r := range m.runs() {
		if r.Pages >= n && r.Pages < best.Pages {
			best = r
		}
	}
	if best.Pages == math.MaxInt {
		return 0, false
	}
	m.mark(best.Page, n, false)
	return best.Page, true
}

func (m *plain) trim() int {
	n := 0
	for _, r := range m.cached() {
		m.mark(r.Page, r.Pages, true)
		n += r.Pages
	}
	m.kept = [7][]int{}
	return n
}

// classOf is the class of a chunk for so many pages, and how many it has; -1: it is a large one.
func classOf(pages int) (int, int) {
	for class, n := range pagesOf {
		if n >= pages {
			return class, n
		}
	}
	return -1, pages
}

func (m *plain) get(pages, kind int, owner uint64) (int, int, api.Errno) {
	if pages < 1 || pages > 1<<20 || kind < 0 || kind > 255 {
		return 0, 0, api.ErrArg
	}
	class, n := classOf(pages)
	page, is := 0, false
	if class >= 0 && len(m.kept[class]) > 0 {
		last := len(m.kept[class]) - 1
		page, is = m.kept[class][last], true
		m.kept[class] = m.kept[class][:last]
	} else if page, is = m.take(n); !is {
		m.trim()
		page, is = m.take(n)
	}
	if !is {
		return 0, 0, api.ErrFull
	}
	// The header's bytes touch one page.
	m.ticks++
	m.got[page] = header.Head{Pages: n, Kind: kind, Owner: owner}
	return page, n, api.OK
}

func (m *plain) put(page int) api.Errno {
	if page < 0 || page >= len(m.free) {
		return api.ErrRange
	}
	h, is := m.got[page]
	if !is {
		// It was looked for.
		m.ticks++
		return api.ErrBad
	}
	// It is read, read once more, and cleared.
	m.ticks += 3
	delete(m.got, page)
	class, n := classOf(h.Pages)
	if class >= 0 && len(m.kept[class]) < 4 {
		m.kept[class] = append(m.kept[class], page)
		return api.OK
	}
	m.mark(page, n, true)
	return api.OK
}

// held fails, unless a Store tells so of itself.
func held(t *testing.T, s *chunk.Store, ticks int, runs, kept []api.Run) {
	t.Helper()
	pages, n := s.Free()
	if pages != sum(runs) || n != len(runs) || !slices.Equal(s.Runs(), runs) || !slices.Equal(s.Cached(), kept) {
		t.Fatalf("Free %d %d, Runs %v, Cached %v, want %v, %v", pages, n, s.Runs(), s.Cached(), runs, kept)
	}
	if s.Ticks() != ticks {
		t.Fatalf("Ticks %d, want %d", s.Ticks(), ticks)
	}
}

// same fails, unless a Store tells of itself what the plain one does, and just its headers stand in the space.
func same(t *testing.T, s *chunk.Store, m *plain) {
	t.Helper()
	held(t, s, m.ticks, m.runs(), m.cached())
	headsIn(t, s.Space(), m.got)
	// Each page was read.
	m.ticks += len(m.free)
}

// heads fails, unless just these headers stand in a Store's space.
func heads(t *testing.T, s *chunk.Store, want map[int]header.Head) {
	t.Helper()
	// A clone's, as reading ticks.
	headsIn(t, s.Space().Clone(), want)
}

// headsIn fails, unless just these headers stand in a space.
func headsIn(t *testing.T, s *space.Space, want map[int]header.Head) {
	t.Helper()
	for page := range s.Pages() {
		h, err := header.Read(s, page)
		if w, is := want[page]; is && (h != w || err != api.OK) {
			t.Fatalf("the header at %d: %+v, %v, want %+v", page, h, err, w)
		} else if !is && err != api.ErrBad {
			t.Fatalf("at %d stands a header: %+v, %v", page, h, err)
		}
	}
}

// got fails, unless a Get answers so, of kind 1 and owner 5.
func got(t *testing.T, s *chunk.Store, pages, wantPage, wantPages int) {
	t.Helper()
	gotOf(t, s, pages, 1, 5, wantPage, wantPages, api.OK)
}

// gotOf fails, unless a Get answers so.
func gotOf(t *testing.T, s *chunk.Store, pages, kind int, owner uint64, wantPage, wantPages int, want api.Errno) {
	t.Helper()
	if p, n, err := s.Get(pages, kind, owner); p != wantPage || n != wantPages || err != want {
		t.Fatalf("Get(%d, %d, %d) = %d, %d, %v, want %d, %d, %v", pages, kind, owner, p, n, err, wantPage, wantPages, want)
	}
}

// put fails, unless a Put answers so.
func put(t *testing.T, s *chunk.Store, page int, want api.Errno) {
	t.Helper()
	if err := s.Put(page); err != want {
		t.Fatalf("Put(%d) = %v, want %v", page, err, want)
	}
}

// trimmed fails, unless a Trim answers so.
func trimmed(t *testing.T, s *chunk.Store, want int) {
	t.Helper()
	if n := s.Trim(); n != want {
		t.Fatalf("Trim() = %d, want %d", n, want)
	}
}

// tells fails, unless just this header stands at a page.
func tells(t *testing.T, s *chunk.Store, page int, want header.Head) {
	t.Helper()
	if h, err := header.Read(s.Space().Clone(), page); h != want || err != api.OK {
		t.Fatalf("the header at %d: %+v, %v, want %+v", page, h, err, want)
	}
}

// whole is all bytes of a Store's space; it doesn't tick there, since they are loaded from a clone.
func whole(t *testing.T, s *chunk.Store) []byte {
	t.Helper()
	c := s.Space().Clone()
	var all []byte
	for i := range c.Pages() {
		b, err := c.Load(uint64(i)*api.Page, api.Page)
		if err != api.OK {
			t.Fatalf("Load of page %d: %v", i, err)
		}
		all = append(all, b...)
	}
	return all
}

// filled is a Store all of whose bytes were laid, none of them 0, and these bytes.
func filled(t *testing.T, pages int) (*chunk.Store, []byte) {
	t.Helper()
	s, b := chunk.New(pages), make([]byte, pages*api.Page)
	for i := range b {
		b[i] = byte(1 + (i+i/251)%255)
	}
	for i := range pages {
		if err := s.Space().Store(uint64(i)*api.Page, b[i*api.Page:(i+1)*api.Page]); err != api.OK {
			t.Fatal(err)
		}
	}
	return s, b
}

// state is all that a Store tells of itself.
type state struct {
	pages, runs, ticks int
	free, kept         []api.Run
	bytes              []byte
}

func stateOf(t *testing.T, s *chunk.Store) state {
	t.Helper()
	pages, runs := s.Free()
	return state{pages, runs, s.Ticks(), s.Runs(), s.Cached(), whole(t, s)}
}

// unchanged fails, unless a Store still tells what it told, but for so many ticks more.
func unchanged(t *testing.T, s *chunk.Store, was state, ticks int) {
	t.Helper()
	is := stateOf(t, s)
	if is.pages != was.pages || is.runs != was.runs || is.ticks != was.ticks+ticks {
		t.Fatalf("Free %d %d, Ticks %d, were %d %d, %d", is.pages, is.runs, is.ticks, was.pages, was.runs, was.ticks)
	}
	if !slices.Equal(is.free, was.free) || !slices.Equal(is.kept, was.kept) || !bytes.Equal(is.bytes, was.bytes) {
		t.Fatalf("Runs %v, Cached %v, were %v, %v; the bytes are the same: %v", is.free, is.kept, was.free, was.kept, bytes.Equal(is.bytes, was.bytes))
	}
}

// used is a Store of 44 pages: chunks that were got stand at 0, 5 and 8, chunks that are kept at 1, 6 and 7, and the last 4 pages are free.
func used(t *testing.T) *chunk.Store {
	t.Helper()
	s := chunk.New(44)
	got(t, s, 1, 0, 1)
	got(t, s, 4, 1, 4)
	got(t, s, 1, 5, 1)
	got(t, s, 1, 6, 1)
	got(t, s, 1, 7, 1)
	got(t, s, 30, 8, 32)
	for _, page := range []int{1, 7, 6} {
		put(t, s, page, api.OK)
	}
	held(t, s, 6*3+3*3, list(40, 4), list(7, 1, 6, 1, 1, 4))
	return s
}

// P10.1

func TestTheChaptersExample(t *testing.T) {
	s := chunk.New(10)
	got(t, s, 3, 0, 4)
	put(t, s, 0, api.OK)
	held(t, s, 6, list(4, 6), list(0, 4))
	got(t, s, 4, 0, 4)
	held(t, s, 7, list(4, 6), nil)
	trimmed(t, s, 0)
	held(t, s, 7, list(4, 6), nil)
}

func TestNewHasSoManyPages(t *testing.T) {
	for _, x := range []struct{ asked, want int }{
		{math.MinInt, 1}, {-1 << 32, 1}, {-1, 1}, {0, 1}, {1, 1}, {2, 2}, {100, 100},
		{1<<20 - 1, 1<<20 - 1}, {1 << 20, 1 << 20}, {1<<20 + 1, 1 << 20}, {1<<32 + 1, 1 << 20}, {math.MaxInt, 1 << 20},
	} {
		s := chunk.New(x.asked)
		held(t, s, 0, list(0, x.want), nil)
		if n := s.Space().Pages(); n != x.want {
			t.Errorf("New(%d): a space of %d pages, want %d", x.asked, n, x.want)
		}
		// As many pages as there are: the numbers above are those of a class, or of a large chunk.
		got(t, s, x.want, 0, x.want)
		held(t, s, 3, nil, nil)
		gotOf(t, s, 1, 0, 0, 0, 0, api.ErrFull)
		tells(t, s, 0, header.Head{Pages: x.want, Kind: 1, Owner: 5})
	}
}

func TestGetOfPagesAroundEachClass(t *testing.T) {
	for _, x := range []struct{ pages, want int }{
		{1, 1}, {2, 2}, {3, 4}, {4, 4}, {5, 8}, {7, 8}, {8, 8}, {9, 16}, {15, 16}, {16, 16}, {17, 32}, {31, 32}, {32, 32}, {33, 64}, {63, 64}, {64, 64},
		{65, 65}, {66, 66}, {127, 127}, {128, 128}, {129, 129}, {1000, 1000}, {1<<20 - 1, 1<<20 - 1}, {1 << 20, 1 << 20},
	} {
		s := chunk.New(api.MaxPages)
		gotOf(t, s, x.pages, 3, 9, 0, x.want, api.OK)
		tells(t, s, 0, header.Head{Pages: x.want, Kind: 3, Owner: 9})
		var rest []api.Run
		if x.want < api.MaxPages {
			rest = list(x.want, api.MaxPages-x.want)
		}
		held(t, s, 3, rest, nil)
		put(t, s, 0, api.OK)
		if x.want > 64 {
			// 3 of the header, and one of the giving back, beside the runs that were free.
			held(t, s, 3+3+1+len(rest), list(0, api.MaxPages), nil)
		} else {
			held(t, s, 3+3, rest, list(0, x.want))
		}
	}
}

func TestGetOfEachNumberOfPages(t *testing.T) {
	for pages := 1; pages <= 200; pages++ {
		_, want := classOf(pages)
		s := chunk.New(want)
		got(t, s, pages, 0, want)
		held(t, s, 3, nil, nil)
		// In a space with one page less there is no room: it is as long as its class, not as what was asked for.
		if want > 1 {
			gotOf(t, chunk.New(want-1), pages, 0, 0, 0, 0, api.ErrFull)
		}
	}
}

func TestGetOfKindsAndOwners(t *testing.T) {
	s := chunk.New(1)
	for _, kind := range []int{0, 1, 2, 127, 128, 254, 255} {
		for _, owner := range []uint64{0, 1, 255, 256, 1<<32 - 1, 1 << 32, 0xfedcba9876543210, 1<<63 - 1, 1 << 63, top - 1, top} {
			gotOf(t, s, 1, kind, owner, 0, 1, api.OK)
			tells(t, s, 0, header.Head{Pages: 1, Kind: kind, Owner: owner})
			put(t, s, 0, api.OK)
			heads(t, s, nil)
		}
	}
}

func TestEachKind(t *testing.T) {
	s := chunk.New(1)
	for kind := -300; kind <= 600; kind++ {
		if kind < 0 || kind > 255 {
			gotOf(t, s, 1, kind, 7, 0, 0, api.ErrArg)
			continue
		}
		gotOf(t, s, 1, kind, 7, 0, 1, api.OK)
		tells(t, s, 0, header.Head{Pages: 1, Kind: kind, Owner: 7})
		put(t, s, 0, api.OK)
	}
}

func TestGetFromTheBestRun(t *testing.T) {
	s := chunk.New(300)
	got(t, s, 70, 0, 70)
	got(t, s, 1, 70, 1)
	got(t, s, 66, 71, 66)
	got(t, s, 1, 137, 1)
	put(t, s, 0, api.OK)
	put(t, s, 71, api.OK)
	held(t, s, 4*3+2*3+2+3, list(0, 70, 71, 66, 138, 162), nil)
	// The shortest run that is long enough, not the first one.
	got(t, s, 64, 71, 64)
	held(t, s, 23+4+1, list(0, 70, 135, 2, 138, 162), nil)
	got(t, s, 2, 135, 2)
	got(t, s, 2, 0, 2)
	got(t, s, 69, 138, 69)
	held(t, s, 28+4+1+3+1+3+1, list(2, 68, 207, 93), nil)
}

func TestAChunkThatWasPutIsGotAgain(t *testing.T) {
	for class, n := range pagesOf {
		s := chunk.New(300)
		got(t, s, 1, 0, 1)
		gotOf(t, s, n, 17, 99, 1, n, api.OK)
		if err := header.Link(s.Space(), 1, 77); err != api.OK {
			t.Fatal(err)
		}
		tells(t, s, 1, header.Head{Pages: n, Kind: 17, Owner: 99, Next: 77})
		got(t, s, n, 1+n, n)
		put(t, s, 1, api.OK)
		held(t, s, 3*3+2+3, list(1+2*n, 299-2*n), list(1, n))
		// Other classes, and large ones, aren't served by it.
		for other, m := range pagesOf {
			if other != class {
				got(t, s, m, 1+2*n, m)
				put(t, s, 1+2*n, api.OK)
				trimmed(t, s, m+n)
				got(t, s, n, 1, n)
				put(t, s, 1, api.OK)
			}
		}
		got(t, s, 65, 1+2*n, 65)
		put(t, s, 1+2*n, api.OK)
		ticks := s.Ticks()
		// The least number of pages of the class does as well, and its header is a fresh one.
		least := 1
		if class > 0 {
			least = pagesOf[class-1] + 1
		}
		gotOf(t, s, least, 200, 8, 1, n, api.OK)
		tells(t, s, 1, header.Head{Pages: n, Kind: 200, Owner: 8})
		held(t, s, ticks+1, list(1+2*n, 299-2*n), nil)
	}
}

func TestTheLastOneThatWasPutIsGotFirst(t *testing.T) {
	s := chunk.New(20)
	for i := range 4 {
		got(t, s, 2, 2*i, 2)
	}
	for _, page := range []int{4, 0, 6, 2} {
		put(t, s, page, api.OK)
	}
	held(t, s, 4*3+4*3, list(8, 12), list(4, 2, 0, 2, 6, 2, 2, 2))
	for i, page := range []int{2, 6, 0, 4, 8} {
		if i == 4 {
			held(t, s, 24+4, list(8, 12), nil)
		}
		got(t, s, 2, page, 2)
	}
	held(t, s, 28+3, list(10, 10), nil)
}

func TestWhatIsKeptIsGotThoughPagesAreFree(t *testing.T) {
	s := chunk.New(100)
	got(t, s, 8, 0, 8)
	got(t, s, 1, 8, 1)
	got(t, s, 8, 9, 8)
	put(t, s, 9, api.OK)
	put(t, s, 0, api.OK)
	got(t, s, 5, 0, 8)
	got(t, s, 6, 9, 8)
	got(t, s, 7, 17, 8)
}

func TestRoomBehindATrim(t *testing.T) {
	s := chunk.New(8)
	for _, page := range []int{0, 2, 4, 6} {
		got(t, s, 2, page, 2)
	}
	for _, page := range []int{4, 2} {
		put(t, s, page, api.OK)
	}
	held(t, s, 4*3+2*3, nil, list(4, 2, 2, 2))
	gotOf(t, s, 3, 7, 6, 2, 4, api.OK)
	// Given back in the order of what was kept, 1 and 2, then taken, 2, then the header, 1.
	held(t, s, 18+1+2+2+1, nil, nil)
	heads(t, s, map[int]header.Head{0: {Pages: 2, Kind: 1, Owner: 5}, 2: {Pages: 4, Kind: 7, Owner: 6}, 6: {Pages: 2, Kind: 1, Owner: 5}})
}

func TestRoomForALargeChunkBehindATrim(t *testing.T) {
	s := chunk.New(130)
	got(t, s, 64, 0, 64)
	got(t, s, 64, 64, 64)
	got(t, s, 1, 128, 1)
	put(t, s, 64, api.OK)
	put(t, s, 128, api.OK)
	held(t, s, 3*3+2*3, list(129, 1), list(128, 1, 64, 64))
	gotOf(t, s, 65, 0, 1, 64, 65, api.OK)
	held(t, s, 15+2+2+2+1, list(129, 1), nil)
	tells(t, s, 64, header.Head{Pages: 65, Owner: 1})
}

func TestATrimGivesAllBackNotJustWhatIsNeeded(t *testing.T) {
	s := used(t)
	// Two pages beside each other are kept in two chunks; pages enough for a chunk of 2 are free at first.
	got(t, s, 2, 40, 2)
	held(t, s, 27+3, list(42, 2), list(7, 1, 6, 1, 1, 4))
	got(t, s, 2, 42, 2)
	held(t, s, 30+3, nil, list(7, 1, 6, 1, 1, 4))
	got(t, s, 2, 6, 2)
	held(t, s, 33+1+2+2+3+1, list(1, 4), nil)
}

func TestNoRoomEvenBehindATrim(t *testing.T) {
	for _, pages := range []int{5, 8, 9, 64, 65, 1000, api.MaxPages} {
		s := used(t)
		b := whole(t, s)
		gotOf(t, s, pages, 0, 0, 0, 0, api.ErrFull)
		held(t, s, 27+2+3+3, list(1, 4, 6, 2, 40, 4), nil)
		if !bytes.Equal(whole(t, s), b) {
			t.Error("bytes are changed")
		}
		// Nothing is kept any more: nothing is changed this time.
		was := stateOf(t, s)
		gotOf(t, s, pages, 0, 0, 0, 0, api.ErrFull)
		unchanged(t, s, was, 0)
		got(t, s, 4, 1, 4)
	}
}

func TestNoRoomWhileNothingIsKept(t *testing.T) {
	s := chunk.New(10)
	got(t, s, 4, 0, 4)
	got(t, s, 4, 4, 4)
	was := stateOf(t, s)
	for _, pages := range []int{3, 4, 5, 8, 64, 65, api.MaxPages} {
		gotOf(t, s, pages, 0, 0, 0, 0, api.ErrFull)
		unchanged(t, s, was, 0)
	}
	got(t, s, 2, 8, 2)
	was = stateOf(t, s)
	for pages := 1; pages <= 70; pages++ {
		gotOf(t, s, pages, 255, top, 0, 0, api.ErrFull)
		unchanged(t, s, was, 0)
	}
}

func TestEnoughPagesButNoRun(t *testing.T) {
	s := chunk.New(6)
	for page := range 6 {
		got(t, s, 1, page, 1)
	}
	for _, page := range []int{0, 2, 4} {
		put(t, s, page, api.OK)
	}
	gotOf(t, s, 2, 0, 0, 0, 0, api.ErrFull)
	held(t, s, 6*3+3*3+1+2+3, list(0, 1, 2, 1, 4, 1), nil)
	put(t, s, 1, api.OK)
	gotOf(t, s, 3, 0, 0, 0, 0, api.ErrFull)
	held(t, s, 33+3+4, list(0, 3, 4, 1), nil)
	got(t, s, 2, 0, 2)
	held(t, s, 40+3+1, list(2, 1, 4, 1), nil)
}

func TestGetOfWhatMayNotBe(t *testing.T) {
	full := chunk.New(1)
	got(t, full, 1, 0, 1)
	for _, s := range []*chunk.Store{chunk.New(3), used(t), full} {
		was := stateOf(t, s)
		for _, pages := range wrongPages {
			for _, kind := range append([]int{0, 1, 255}, wrongKinds...) {
				gotOf(t, s, pages, kind, 5, 0, 0, api.ErrArg)
			}
		}
		// Also where there is no room: the arguments are named ahead, and nothing is trimmed.
		for _, kind := range wrongKinds {
			for _, pages := range []int{1, 2, 8, 64, 65, api.MaxPages} {
				gotOf(t, s, pages, kind, 5, 0, 0, api.ErrArg)
			}
		}
		unchanged(t, s, was, 0)
	}
}

func TestAHeaderIsAllThatIsLaid(t *testing.T) {
	s, b := filled(t, 12)
	for _, x := range []struct{ pages, page, n int }{{1, 0, 1}, {2, 1, 2}, {6, 3, 8}} {
		gotOf(t, s, x.pages, 2, 3, x.page, x.n, api.OK)
		copy(b[x.page*api.Page:], "steading"+string([]byte{byte(x.n), 0, 0, 0, 2, 0, 0, 0, 3, 0, 0, 0, 0, 0, 0, 0, 0, 0, 0, 0, 0, 0, 0, 0}))
		if !bytes.Equal(whole(t, s), b) {
			t.Fatalf("behind Get of %d the bytes aren't what they should be", x.pages)
		}
	}
	for _, page := range []int{1, 0, 3} {
		put(t, s, page, api.OK)
		clear(b[page*api.Page : page*api.Page+api.Header])
		if !bytes.Equal(whole(t, s), b) {
			t.Fatalf("behind Put of %d the bytes aren't what they should be", page)
		}
	}
	trimmed(t, s, 11)
	if !bytes.Equal(whole(t, s), b) {
		t.Fatal("Trim changes bytes")
	}
}

// P10.2

func TestFourOfAClassAreKeptAndOneMoreIsNot(t *testing.T) {
	for _, n := range pagesOf {
		s := chunk.New(6 * n)
		for i := range 6 {
			got(t, s, n, i*n, n)
		}
		var kept []api.Run
		for i := range 4 {
			put(t, s, i*n, api.OK)
			kept = append(kept, api.Run{Page: i * n, Pages: n})
			held(t, s, 6*3+(i+1)*3, nil, kept)
		}
		put(t, s, 5*n, api.OK)
		held(t, s, 30+3+1, list(5*n, n), kept)
		put(t, s, 4*n, api.OK)
		held(t, s, 34+3+2, list(4*n, 2*n), kept)
		heads(t, s, nil)
		// Those that are kept come first, then those that were given back.
		for _, i := range []int{3, 2, 1, 0, 4, 5} {
			got(t, s, n, i*n, n)
		}
		held(t, s, 39+4*1+2*3, nil, nil)
	}
}

func TestAFullClassLeavesRoomForTheOthers(t *testing.T) {
	s := chunk.New(5 + 2*127)
	for page := range 5 {
		got(t, s, 1, page, 1)
	}
	at := 5
	for _, n := range pagesOf[1:] {
		got(t, s, n, at, n)
		at += n
	}
	for page := range 5 {
		put(t, s, page, api.OK)
	}
	at = 5
	want := list(0, 1, 1, 1, 2, 1, 3, 1)
	for _, n := range pagesOf[1:] {
		put(t, s, at, api.OK)
		want = append(want, api.Run{Page: at, Pages: n})
		at += n
	}
	held(t, s, 5*3+6*3+5*3+2+6*3, list(4, 1, at, 5+2*127-at), want)
}

func TestALargeChunkGoesBackAtOnce(t *testing.T) {
	for _, n := range []int{65, 66, 100, 127, 128, 129, 256, 1000} {
		s := chunk.New(n + 1)
		got(t, s, n, 0, n)
		got(t, s, 1, n, 1)
		for range 6 {
			ticks := s.Ticks()
			put(t, s, 0, api.OK)
			held(t, s, ticks+3+1, list(0, n), nil)
			put(t, s, 0, api.ErrBad)
			got(t, s, n, 0, n)
			held(t, s, ticks+4+1+3, nil, nil)
		}
	}
}

func TestPutOfTheSamePageTwice(t *testing.T) {
	for _, n := range []int{1, 2, 64, 65} {
		s := chunk.New(200)
		got(t, s, n, 0, n)
		got(t, s, 1, n, 1)
		put(t, s, 0, api.OK)
		was := stateOf(t, s)
		for i := range 3 {
			put(t, s, 0, api.ErrBad)
			// The header was looked for: the space ticks.
			unchanged(t, s, was, i+1)
		}
		trimmed(t, s, sum(was.kept))
		put(t, s, 0, api.ErrBad)
		got(t, s, n, 0, n)
		put(t, s, 0, api.OK)
		put(t, s, 0, api.ErrBad)
	}
}

func TestPutBeyondTheSpace(t *testing.T) {
	one := chunk.New(1)
	got(t, one, 1, 0, 1)
	for _, s := range []*chunk.Store{chunk.New(1), one, used(t)} {
		was := stateOf(t, s)
		for _, page := range beyond(s.Space().Pages()) {
			put(t, s, page, api.ErrRange)
		}
		unchanged(t, s, was, 0)
	}
	great := chunk.New(api.MaxPages)
	for _, page := range beyond(api.MaxPages) {
		put(t, great, page, api.ErrRange)
	}
	put(t, great, api.MaxPages-1, api.ErrBad)
	held(t, great, 1, list(0, api.MaxPages), nil)
}

func TestPutOfPagesWithoutAHeader(t *testing.T) {
	for _, s := range []*chunk.Store{chunk.New(44), used(t)} {
		was := stateOf(t, s)
		ticks := 0
		for page := range 44 {
			if _, err := header.Read(s.Space().Clone(), page); err == api.OK {
				continue
			}
			// Free ones, kept ones, and those within a chunk that was got.
			put(t, s, page, api.ErrBad)
			ticks++
			unchanged(t, s, was, ticks)
		}
		if ticks < 41 {
			t.Error(ticks)
		}
	}
	s, _ := filled(t, 3)
	was := stateOf(t, s)
	put(t, s, 1, api.ErrBad)
	unchanged(t, s, was, 1)
}

func TestPutClearsTheHeader(t *testing.T) {
	s := chunk.New(100)
	for _, n := range []int{1, 4, 64, 65} {
		gotOf(t, s, n, 255, top, 0, n, api.OK)
		if err := header.Link(s.Space(), 0, top); err != api.OK {
			t.Fatal(err)
		}
		put(t, s, 0, api.OK)
		heads(t, s, nil)
		if b := whole(t, s); !bytes.Equal(b, make([]byte, len(b))) {
			t.Errorf("of %d pages a header's bytes are left", n)
		}
		if n <= 64 {
			trimmed(t, s, n)
		}
	}
}

func TestPutGoesByTheHeaderThatStandsThere(t *testing.T) {
	// What another header tells isn't asked for, but that no call panics, and that each ends.
	for _, pages := range []int{1, 2, 3, 5, 7, 63, 64, 65, 100, api.MaxPages} {
		for page := range 8 {
			s := chunk.New(8)
			got(t, s, 4, 0, 4)
			got(t, s, 2, 4, 2)
			if err := header.Write(s.Space(), page, header.Head{Pages: pages}); err != api.OK {
				t.Fatal(err)
			}
			for p := range 8 {
				s.Put(p)
			}
			for _, n := range []int{1, 4, 64, 65} {
				s.Get(n, 0, 0)
			}
			s.Trim()
			s.Free()
			s.Ticks()
		}
	}
}

// P10.3

func TestTrimOfNone(t *testing.T) {
	s := chunk.New(5)
	trimmed(t, s, 0)
	held(t, s, 0, list(0, 5), nil)
	got(t, s, 2, 0, 2)
	was := stateOf(t, s)
	trimmed(t, s, 0)
	unchanged(t, s, was, 0)
}

func TestTrimOfSome(t *testing.T) {
	s := used(t)
	b := whole(t, s)
	trimmed(t, s, 6)
	held(t, s, 27+2+3+3, list(1, 4, 6, 2, 40, 4), nil)
	trimmed(t, s, 0)
	held(t, s, 35, list(1, 4, 6, 2, 40, 4), nil)
	if !bytes.Equal(whole(t, s), b) {
		t.Error("bytes are changed")
	}
}

func TestTrimOfAll(t *testing.T) {
	// Four chunks of each class, one behind the other, and one page more, which stays free.
	s := chunk.New(4*127 + 1)
	var at []int
	for _, n := range pagesOf {
		for range 4 {
			next := 0
			if len(at) > 0 {
				next = 4*127 + 1 - sum(s.Runs())
			}
			got(t, s, n, next, n)
			at = append(at, next)
		}
	}
	for _, page := range at {
		put(t, s, page, api.OK)
	}
	if n := len(s.Cached()); n != 28 || sum(s.Cached()) != 4*127 {
		t.Fatal(n, s.Cached())
	}
	held(t, s, 28*3+28*3, list(4*127, 1), s.Cached())
	trimmed(t, s, 4*127)
	// Rising, so that ahead of the first one there is one free run, and two ahead of all others.
	held(t, s, 28*6+2+27*3, list(0, 4*127+1), nil)
	trimmed(t, s, 0)
}

func TestTrimInTheOrderOfWhatIsKept(t *testing.T) {
	// How many runs are free ahead of each page that is given back hangs on the order: Ticks tells it.
	for _, x := range []struct {
		puts  []int
		ticks int
	}{
		{[]int{0, 1, 2}, 1 + 2 + 2}, {[]int{0, 2, 1}, 1 + 2 + 3}, {[]int{1, 0, 2}, 1 + 2 + 2},
		{[]int{1, 2, 0}, 1 + 2 + 2}, {[]int{2, 0, 1}, 1 + 2 + 3}, {[]int{2, 1, 0}, 1 + 2 + 2},
	} {
		s := chunk.New(3)
		for page := range 3 {
			got(t, s, 1, page, 1)
		}
		for _, page := range x.puts {
			put(t, s, page, api.OK)
		}
		trimmed(t, s, 3)
		held(t, s, 9+9+x.ticks, list(0, 3), nil)
	}
	// By classes: that of 1 page goes ahead, though the other one was put first, and lies between.
	s := chunk.New(4)
	got(t, s, 1, 0, 1)
	got(t, s, 2, 1, 2)
	got(t, s, 1, 3, 1)
	for _, page := range []int{1, 0, 3} {
		put(t, s, page, api.OK)
	}
	held(t, s, 18, nil, list(0, 1, 3, 1, 1, 2))
	trimmed(t, s, 4)
	held(t, s, 18+1+2+3, list(0, 4), nil)
}

func TestGetBehindATrim(t *testing.T) {
	s := used(t)
	trimmed(t, s, 6)
	// The best run, not what was kept last.
	got(t, s, 1, 6, 1)
	got(t, s, 1, 7, 1)
	got(t, s, 1, 1, 1)
	got(t, s, 4, 40, 4)
	held(t, s, 35+5+5+4+4, list(2, 3), nil)
}

func TestSpaceIsTheSameOne(t *testing.T) {
	s := chunk.New(6)
	first := s.Space()
	if first == nil {
		t.Fatal("nil")
	}
	step := func() {
		t.Helper()
		if s.Space() != first {
			t.Fatal("another space")
		}
	}
	got(t, s, 3, 0, 4)
	step()
	if h, err := header.Read(first, 0); h != (header.Head{Pages: 4, Kind: 1, Owner: 5}) || err != api.OK {
		t.Fatal(h, err)
	}
	put(t, s, 0, api.OK)
	step()
	if _, err := header.Read(first, 0); err != api.ErrBad {
		t.Fatal(err)
	}
	gotOf(t, s, 64, 0, 0, 0, 0, api.ErrFull)
	step()
	trimmed(t, s, 0)
	step()
}

func TestTicksOfTheSpaceCountToo(t *testing.T) {
	s := chunk.New(3)
	if err := s.Space().Store(4090, make([]byte, 10)); err != api.OK {
		t.Fatal(err)
	}
	held(t, s, 2, list(0, 3), nil)
	got(t, s, 1, 0, 1)
	held(t, s, 2+3, list(1, 2), nil)
	if n := s.Space().Ticks(); n != 3 {
		t.Error(n)
	}
	if err := s.Space().Zero(0, 3*api.Page); err != api.OK {
		t.Fatal(err)
	}
	held(t, s, 5+3, list(1, 2), nil)
}

func TestAskingTicksNothing(t *testing.T) {
	s := used(t)
	was := stateOf(t, s)
	for range 3 {
		s.Free()
		s.Runs()
		s.Cached()
		s.Space()
		s.Ticks()
	}
	unchanged(t, s, was, 0)
}

func TestWhatIsAnsweredMayBeChanged(t *testing.T) {
	s := used(t)
	was := stateOf(t, s)
	for _, ask := range []func() []api.Run{s.Runs, s.Cached} {
		l, other := ask(), ask()
		want := slices.Clone(l)
		for i := range l {
			l[i] = api.Run{Page: -1, Pages: 99}
		}
		_ = append(l[:0], slices.Repeat(list(77, 7), len(l)+1)...)
		clear(l[:cap(l)])
		unchanged(t, s, was, 0)
		if len(want) == 0 || !slices.Equal(other, want) {
			t.Error(other, want)
		}
	}
	free, kept := s.Runs(), s.Cached()
	got(t, s, 1, 6, 1)
	trimmed(t, s, 5)
	got(t, s, 3, 1, 4)
	if !slices.Equal(free, was.free) || !slices.Equal(kept, was.kept) {
		t.Error("what was answered is changed", free, kept)
	}
}

// P10.4

func TestNilStore(t *testing.T) {
	var s *chunk.Store
	if s.Space() != nil {
		t.Error("a space")
	}
	for _, pages := range append([]int{1, 2, 64, 65, api.MaxPages}, wrongPages...) {
		for _, kind := range append([]int{0, 255}, wrongKinds...) {
			gotOf(t, s, pages, kind, 1, 0, 0, api.ErrArg)
		}
	}
	for _, page := range append([]int{0, 1}, beyond(1)...) {
		put(t, s, page, api.ErrRange)
	}
	trimmed(t, s, 0)
	held(t, s, 0, nil, nil)
}

// P10.5

// parted fails, unless each page is in a free run, in a chunk that is kept, or in one of these that were got: in one alone.
func parted(t *testing.T, s *chunk.Store, own map[int]header.Head) {
	t.Helper()
	all := slices.Concat(s.Runs(), s.Cached())
	for page, h := range own {
		all = append(all, api.Run{Page: page, Pages: h.Pages})
	}
	in := make([]int, s.Space().Pages())
	for _, r := range all {
		for page := r.Page; page < r.Page+r.Pages; page++ {
			in[page]++
		}
	}
	for page, n := range in {
		if n != 1 {
			t.Fatalf("page %d is in %d of %v", page, n, all)
		}
	}
	for i, r := range s.Runs() {
		if i > 0 && s.Runs()[i-1].Page+s.Runs()[i-1].Pages >= r.Page {
			t.Fatalf("adjacent: %v", s.Runs())
		}
	}
}

func TestAllPutAndTrimmedIsOneRun(t *testing.T) {
	for _, pages := range []int{1, 2, 3, 7, 64, 65, 200, 1000} {
		s := chunk.New(pages)
		own := map[int]header.Head{}
		for i := 0; ; i++ {
			page, n, err := s.Get(1+i*7%90, i%256, uint64(i))
			if err == api.ErrFull {
				break
			}
			own[page] = header.Head{Pages: n, Kind: i % 256, Owner: uint64(i)}
		}
		// What is left, page by page.
		for {
			page, n, err := s.Get(1, 0, 0)
			if err == api.ErrFull {
				break
			}
			own[page] = header.Head{Pages: n}
		}
		heads(t, s, own)
		parted(t, s, own)
		for _, turn := range []int{2, 3, 1} {
			for page := range pages {
				if _, is := own[page]; is && page%turn == 0 {
					put(t, s, page, api.OK)
					delete(own, page)
					parted(t, s, own)
				}
			}
		}
		trimmed(t, s, sum(s.Cached()))
		held(t, s, s.Ticks(), list(0, pages), nil)
		heads(t, s, nil)
		if _, n := classOf(pages); n == pages {
			got(t, s, pages, 0, pages)
			held(t, s, s.Ticks(), nil, nil)
		}
	}
}

func TestTwoStoresSideBySide(t *testing.T) {
	a, b := chunk.New(10), chunk.New(10)
	if a == b || a.Space() == b.Space() {
		t.Fatal("one and the same")
	}
	got(t, a, 4, 0, 4)
	held(t, b, 0, list(0, 10), nil)
	heads(t, b, nil)
	put(t, b, 0, api.ErrBad)
	got(t, b, 2, 0, 2)
	put(t, a, 0, api.OK)
	held(t, b, 1+3, list(2, 8), nil)
	tells(t, b, 0, header.Head{Pages: 2, Kind: 1, Owner: 5})
	got(t, b, 4, 2, 4)
	held(t, a, 6, list(4, 6), list(0, 4))
	trimmed(t, b, 0)
	trimmed(t, a, 4)
	held(t, a, 8, list(0, 10), nil)
	gotOf(t, b, 8, 0, 0, 0, 0, api.ErrFull)
	got(t, a, 8, 0, 8)
	held(t, b, 7, list(6, 4), nil)
}

// P10.1 to P10.3 and P10.5, against the plain one

// bothGet gets from a Store and the plain one, and fails, unless they answer the same.
func bothGet(t *testing.T, s *chunk.Store, m *plain, pages, kind int, owner uint64) {
	t.Helper()
	page, n, err := m.get(pages, kind, owner)
	gotOf(t, s, pages, kind, owner, page, n, err)
}

// bothPut puts to a Store and the plain one, and fails, unless they answer the same.
func bothPut(t *testing.T, s *chunk.Store, m *plain, page int) {
	t.Helper()
	put(t, s, page, m.put(page))
}

func TestAllShortSequences(t *testing.T) {
	// Each sequence of 6 steps, each of which gets 1, 2 or 3 of 5 pages, or puts page 0, 1 or 2, or trims.
	const steps, kinds = 6, 7
	sequences := 1
	for range steps {
		sequences *= kinds
	}
	for sequence := range sequences {
		s, m := chunk.New(5), newPlain(5)
		rest := sequence
		for step := range steps {
			switch kind := rest % kinds; {
			case kind < 3:
				bothGet(t, s, m, kind+1, step, uint64(sequence))
			case kind < 6:
				bothPut(t, s, m, kind-3)
			default:
				trimmed(t, s, m.trim())
			}
			rest /= kinds
		}
		same(t, s, m)
	}
}

func TestLongSequences(t *testing.T) {
	seed := uint64(10)
	next := func(n int) int {
		seed = seed*6364136223846793005 + 1442695040888963407
		return int(seed>>33) % n
	}
	for _, pages := range []int{1, 2, 5, 17, 64, 150, 400} {
		s, m := chunk.New(pages), newPlain(pages)
		for range 6000 {
			switch kind := next(100); {
			case kind < 50:
				// Pages from 0, and kinds from -1 on: some are refused.
				bothGet(t, s, m, next(1+1<<next(8)), next(258)-1, uint64(next(1<<30)))
			case kind < 97:
				// Pages near one at which a chunk stands, if there is one.
				page := next(pages+2) - 1
				for i := 0; i < 8 && i < pages && len(m.got) > 0; i++ {
					if _, is := m.got[page]; !is {
						page = next(pages)
					}
				}
				bothPut(t, s, m, page)
			default:
				trimmed(t, s, m.trim())
			}
			same(t, s, m)
			parted(t, s, m.got)
		}
		for page := range pages {
			if _, is := m.got[page]; is {
				bothPut(t, s, m, page)
			}
		}
		trimmed(t, s, m.trim())
		held(t, s, m.ticks, list(0, pages), nil)
	}
}

func TestTwiceTheSame(t *testing.T) {
	run := func() state {
		s := chunk.New(200)
		for i := range 300 {
			s.Get(1+i*13%70, i%256, uint64(i))
			s.Put(i * 37 % 200)
		}
		return stateOf(t, s)
	}
	was := run()
	is := run()
	if was.ticks != is.ticks || !slices.Equal(was.free, is.free) || !slices.Equal(was.kept, is.kept) || !bytes.Equal(was.bytes, is.bytes) {
		t.Error(was.ticks, is.ticks, was.free, is.free, was.kept, is.kept)
	}
}

// The signatures, of which the compiler tells.
var (
	_ func(int) *chunk.Store                                     = chunk.New
	_ func(*chunk.Store) *space.Space                            = (*chunk.Store).Space
	_ func(*chunk.Store, int, int, uint64) (int, int, api.Errno) = (*chunk.Store).Get
	_ func(*chunk.Store, int) api.Errno                          = (*chunk.Store).Put
	_ func(*chunk.Store) int                                     = (*chunk.Store).Trim
	_ func(*chunk.Store) (int, int)                              = (*chunk.Store).Free
	_ func(*chunk.Store) []api.Run                               = (*chunk.Store).Cached
	_ func(*chunk.Store) []api.Run                               = (*chunk.Store).Runs
	_ func(*chunk.Store) int                                     = (*chunk.Store).Ticks
)
