package pile_test

import (
	"bytes"
	"math"
	"slices"
	"testing"

	"steading/api"
	"steading/chunk"
	"steading/header"
	"steading/pile"
)

const top = ^uint64(0)

// wrongPages are numbers of pages that no chunk may have; some of them would be right if they lost bits.
var wrongPages = []int{0, -1, -2, -64, -api.MaxPages, math.MinInt32, -1<<32 + 1, math.MinInt + 1, math.MinInt, api.MaxPages + 1, 2 * api.MaxPages, math.MaxInt32, 1 << 32, 1<<32 + 1, 1 << 62, math.MaxInt - 1, math.MaxInt}

// wrongKinds are numbers of no kind; some of them would be one if they lost bits.
var wrongKinds = []int{-1, -2, -255, -256, math.MinInt32, math.MinInt + 1, math.MinInt, 256, 257, 511, 512, 1 << 16, 1 << 32, 1<<32 + 1, 1 << 62, math.MaxInt}

// list is runs by pairs: where each begins, and how many pages it has.
func list(pairs ...int) []api.Run {
	var l []api.Run
	for i := 0; i < len(pairs); i += 2 {
		l = append(l, api.Run{Page: pairs[i], Pages: pairs[i+1]})
	}
	return l
}

// sum is how many pages runs have.
func sum(l []api.Run) int {
	n := 0
	for _, r := range l {
		n += r.Pages
	}
	return n
}

// chance is numbers, always the same ones.
func chance(seed uint64) func(int) int {
	return func(n int) int {
		seed = seed*6364136223846793005 + 1442695040888963407
		return int(seed >> 33 % uint64(n))
	}
}

// plain is what a Pile is held against: a list, the last one on top, of chunks in a Store of the test's own.
type plain struct {
	s     *chunk.Store
	kind  int
	owner uint64
	runs  []api.Run
}

func (m *plain) push(pages int) (int, int, api.Errno) {
	page, n, err := m.s.Get(pages, m.kind, m.owner)
	if err == api.OK {
		next := 0
		if len(m.runs) > 0 {
			next = m.runs[len(m.runs)-1].Page + 1
		}
		err = header.Link(m.s.Space(), page, uint64(next))
		m.runs = append(slices.Clone(m.runs), api.Run{Page: page, Pages: n})
	}
	return page, n, err
}

func (m *plain) pop() (int, int, api.Errno) {
	if len(m.runs) == 0 {
		return 0, 0, api.ErrArg
	}
	last := m.runs[len(m.runs)-1]
	if _, err := header.Read(m.s.Space(), last.Page); err != api.OK {
		return 0, 0, err
	}
	if err := m.s.Put(last.Page); err != api.OK {
		return 0, 0, err
	}
	m.runs = slices.Clone(m.runs[:len(m.runs)-1])
	return last.Page, last.Pages, api.OK
}

func (m *plain) cut(n int) api.Errno {
	if n < 0 {
		return api.ErrArg
	}
	for len(m.runs) > n {
		if _, _, err := m.pop(); err != api.OK {
			return err
		}
	}
	return api.OK
}

// walk is the list, the last one first; each one's header is read.
func (m *plain) walk() []api.Run {
	l := slices.Clone(m.runs)
	slices.Reverse(l)
	for _, r := range l {
		header.Read(m.s.Space(), r.Page)
	}
	return l
}

// holdPush fails, unless a Push answers so.
func holdPush(t *testing.T, p *pile.Pile, pages, wantPage, wantPages int, want api.Errno) {
	t.Helper()
	if page, n, err := p.Push(pages); page != wantPage || n != wantPages || err != want {
		t.Fatalf("Push(%d) = %d, %d, %v, want %d, %d, %v", pages, page, n, err, wantPage, wantPages, want)
	}
}

// pushed fails, unless a Push finds room there.
func pushed(t *testing.T, p *pile.Pile, pages, wantPage, wantPages int) {
	t.Helper()
	holdPush(t, p, pages, wantPage, wantPages, api.OK)
}

// holdPop fails, unless a Pop answers so.
func holdPop(t *testing.T, p *pile.Pile, wantPage, wantPages int, want api.Errno) {
	t.Helper()
	if page, n, err := p.Pop(); page != wantPage || n != wantPages || err != want {
		t.Fatalf("Pop() = %d, %d, %v, want %d, %d, %v", page, n, err, wantPage, wantPages, want)
	}
}

// popped fails, unless a Pop takes that chunk away.
func popped(t *testing.T, p *pile.Pile, wantPage, wantPages int) {
	t.Helper()
	holdPop(t, p, wantPage, wantPages, api.OK)
}

// holdCut fails, unless a Cut answers so.
func holdCut(t *testing.T, p *pile.Pile, n int, want api.Errno) {
	t.Helper()
	if err := p.Cut(n); err != want {
		t.Fatalf("Cut(%d) = %v, want %v", n, err, want)
	}
}

// holdWalk fails, unless a Walk answers so.
func holdWalk(t *testing.T, p *pile.Pile, want []api.Run, wantErr api.Errno) {
	t.Helper()
	if l, err := p.Walk(); !slices.Equal(l, want) || err != wantErr {
		t.Fatalf("Walk() = %v, %v, want %v, %v", l, err, want, wantErr)
	}
}

// keeps fails, unless a Pile tells of itself that just these are on it, the last one on top; its headers aren't read.
func keeps(t *testing.T, p *pile.Pile, want []api.Run) {
	t.Helper()
	var last api.Run
	if len(want) > 0 {
		last = want[len(want)-1]
	}
	if r, is := p.Top(); r != last || is != (len(want) > 0) {
		t.Fatalf("Top() = %v, %v of %v", r, is, want)
	}
	if p.Len() != len(want) || p.Pages() != sum(want) {
		t.Fatalf("Len %d, Pages %d of %v", p.Len(), p.Pages(), want)
	}
}

// held fails, unless just these are on a Pile, the last one on top, and its headers tell so.
func held(t *testing.T, p *pile.Pile, want []api.Run) {
	t.Helper()
	keeps(t, p, want)
	want = slices.Clone(want)
	slices.Reverse(want)
	holdWalk(t, p, want, api.OK)
}

// stored fails, unless a Store tells so of itself.
func stored(t *testing.T, s *chunk.Store, ticks int, runs, kept []api.Run) {
	t.Helper()
	if !slices.Equal(s.Runs(), runs) || !slices.Equal(s.Cached(), kept) || s.Ticks() != ticks {
		t.Fatalf("Runs %v, Cached %v, Ticks %d, want %v, %v, %d", s.Runs(), s.Cached(), s.Ticks(), runs, kept, ticks)
	}
}

// tells fails, unless this header stands at a page; it doesn't tick, since a clone's is read.
func tells(t *testing.T, s *chunk.Store, page int, want header.Head) {
	t.Helper()
	if h, err := header.Read(s.Space().Clone(), page); h != want || err != api.OK {
		t.Fatalf("the header at %d: %+v, %v, want %+v", page, h, err, want)
	}
}

// whole is all bytes of a Store's space; it doesn't tick there, since they are loaded from a clone.
func whole(t *testing.T, s *chunk.Store) []byte {
	t.Helper()
	c := s.Space().Clone()
	b, err := c.Load(0, c.Size())
	if err != api.OK {
		t.Fatalf("Load of all %d bytes: %v", c.Size(), err)
	}
	return b
}

// same fails, unless a Store tells of itself what another one does, with the same bytes where headers stand.
func same(t *testing.T, s, other *chunk.Store) {
	t.Helper()
	stored(t, s, other.Ticks(), other.Runs(), other.Cached())
	is, want := s.Space().Clone(), other.Space().Clone()
	for page := range want.Pages() {
		b, _ := is.Load(uint64(page)*api.Page, api.Header)
		w, _ := want.Load(uint64(page)*api.Page, api.Header)
		if !bytes.Equal(b, w) {
			t.Fatalf("at page %d stands %v, want %v", page, b, w)
		}
	}
}

// lay lays a header by hand.
func lay(t *testing.T, s *chunk.Store, page int, h header.Head) {
	t.Helper()
	if err := header.Write(s.Space(), page, h); err != api.OK {
		t.Fatalf("Write at %d: %v", page, err)
	}
}

// spoil makes a header's first byte another one, by hand; what it does once more the other way round.
func spoil(t *testing.T, s *chunk.Store, page int, b byte) {
	t.Helper()
	if err := s.Space().Store(uint64(page)*api.Page, []byte{b}); err != api.OK {
		t.Fatalf("Store at page %d: %v", page, err)
	}
}

// link changes a header's Next by hand.
func link(t *testing.T, s *chunk.Store, page int, next uint64) {
	t.Helper()
	if err := header.Link(s.Space(), page, next); err != api.OK {
		t.Fatalf("Link at %d: %v", page, err)
	}
}

// four is a Store of 200 pages, and a Pile of it: of 1 page at 0, 4 at 1, 80 at 5, and 2 at 85.
func four(t *testing.T) (*chunk.Store, *pile.Pile) {
	t.Helper()
	s := chunk.New(200)
	p := pile.New(s, 3, 9)
	for _, x := range [][3]int{{1, 0, 1}, {3, 1, 4}, {80, 5, 80}, {2, 85, 2}} {
		pushed(t, p, x[0], x[1], x[2])
	}
	return s, p
}

// fourRuns are the chunks of four.
func fourRuns() []api.Run { return list(0, 1, 1, 4, 5, 80, 85, 2) }

// P14.1

func TestTheChaptersExample(t *testing.T) {
	p := pile.New(chunk.New(10), 0, 1)
	pushed(t, p, 1, 0, 1)
	pushed(t, p, 2, 1, 2)
	holdWalk(t, p, list(1, 2, 0, 1), api.OK)
	popped(t, p, 1, 2)
	held(t, p, list(0, 1))
}

func TestNewHasNoChunks(t *testing.T) {
	for _, kind := range append([]int{0, 1, 255}, wrongKinds...) {
		s := chunk.New(10)
		p := pile.New(s, kind, 7)
		held(t, p, nil)
		holdPop(t, p, 0, 0, api.ErrArg)
		holdCut(t, p, 0, api.OK)
		stored(t, s, 0, list(0, 10), nil)
	}
}

func TestHeadersAreLinked(t *testing.T) {
	s, _ := four(t)
	// The first one's Next is 0; that of the one above page 0 is 1.
	for page, want := range map[int]header.Head{0: {Pages: 1, Next: 0}, 1: {Pages: 4, Next: 1}, 5: {Pages: 80, Next: 2}, 85: {Pages: 2, Next: 6}} {
		want.Kind, want.Owner = 3, 9
		tells(t, s, page, want)
	}
}

func TestAFirstChunkElsewhere(t *testing.T) {
	s := chunk.New(30)
	if _, _, err := s.Get(4, 0, 0); err != api.OK {
		t.Fatal(err)
	}
	p := pile.New(s, 1, 2)
	pushed(t, p, 2, 4, 2)
	tells(t, s, 4, header.Head{Pages: 2, Kind: 1, Owner: 2, Next: 0})
	pushed(t, p, 1, 6, 1)
	tells(t, s, 6, header.Head{Pages: 1, Kind: 1, Owner: 2, Next: 5})
	// Page 0 in the midst: the one above it tells 1, and it tells the one below.
	if err := s.Put(0); err != api.OK {
		t.Fatal(err)
	}
	pushed(t, p, 3, 0, 4)
	tells(t, s, 0, header.Head{Pages: 4, Kind: 1, Owner: 2, Next: 7})
	pushed(t, p, 1, 7, 1)
	tells(t, s, 7, header.Head{Pages: 1, Kind: 1, Owner: 2, Next: 1})
	held(t, p, list(4, 2, 6, 1, 0, 4, 7, 1))
}

func TestPushTellsWhatGetTells(t *testing.T) {
	for pages := 1; pages <= 200; pages++ {
		want := pages
		for n := 64; n >= pages; n /= 2 {
			want = n
		}
		s := chunk.New(want + 1)
		p := pile.New(s, 0, 0)
		pushed(t, p, pages, 0, want)
		held(t, p, list(0, want))
		pushed(t, p, 1, want, 1)
		held(t, p, list(0, want, want, 1))
		popped(t, p, want, 1)
		popped(t, p, 0, want)
	}
	s := chunk.New(api.MaxPages)
	p := pile.New(s, 0, 0)
	pushed(t, p, api.MaxPages, 0, api.MaxPages)
	held(t, p, list(0, api.MaxPages))
	popped(t, p, 0, api.MaxPages)
	pushed(t, p, api.MaxPages-1, 0, api.MaxPages-1)
	pushed(t, p, 1, api.MaxPages-1, 1)
	tells(t, s, api.MaxPages-1, header.Head{Pages: 1, Next: 1})
	popped(t, p, api.MaxPages-1, 1)
	pushed(t, p, 1, api.MaxPages-1, 1)
	held(t, p, list(0, api.MaxPages-1, api.MaxPages-1, 1))
}

func TestTheLastPageBelow(t *testing.T) {
	s := chunk.New(10)
	for page := range 10 {
		if got, _, err := s.Get(1, 0, 0); got != page || err != api.OK {
			t.Fatal(got, err)
		}
	}
	p := pile.New(s, 2, top)
	for _, page := range []int{9, 0, 5} {
		if err := s.Put(page); err != api.OK {
			t.Fatal(err)
		}
		pushed(t, p, 1, page, 1)
	}
	tells(t, s, 0, header.Head{Pages: 1, Kind: 2, Owner: top, Next: 10})
	tells(t, s, 5, header.Head{Pages: 1, Kind: 2, Owner: top, Next: 1})
	held(t, p, list(9, 1, 0, 1, 5, 1))
}

func TestPushOfKindsAndOwners(t *testing.T) {
	for kind := range 256 {
		owner := uint64(kind) * 0x0101010101010101
		s := chunk.New(2)
		p := pile.New(s, kind, owner)
		pushed(t, p, 1, 0, 1)
		pushed(t, p, 1, 1, 1)
		tells(t, s, 0, header.Head{Pages: 1, Kind: kind, Owner: owner})
		tells(t, s, 1, header.Head{Pages: 1, Kind: kind, Owner: owner, Next: 1})
	}
	for _, owner := range []uint64{0, 1, 1<<32 - 1, 1 << 32, 1<<63 - 1, 1 << 63, top - 1, top} {
		s := chunk.New(1)
		pushed(t, pile.New(s, 7, owner), 1, 0, 1)
		tells(t, s, 0, header.Head{Pages: 1, Kind: 7, Owner: owner})
	}
}

func TestWhatAPushTicks(t *testing.T) {
	s := chunk.New(200)
	p := pile.New(s, 0, 0)
	// The pages 2, the header 1, the link 2: the first one's, too.
	pushed(t, p, 1, 0, 1)
	stored(t, s, 5, list(1, 199), nil)
	pushed(t, p, 70, 1, 70)
	stored(t, s, 10, list(71, 129), nil)
	popped(t, p, 1, 70)
	popped(t, p, 0, 1)
	ticks := s.Ticks()
	// What is kept is got without the pages.
	pushed(t, p, 1, 0, 1)
	stored(t, s, ticks+3, list(1, 199), nil)
	// What is refused ticks nothing, nor does what is asked of the pile itself.
	holdPush(t, p, 0, 0, 0, api.ErrArg)
	holdPush(t, p, 200, 0, 0, api.ErrFull)
	keeps(t, p, list(0, 1))
	stored(t, s, ticks+3, list(1, 199), nil)
}

func TestPushOfWhatWasKept(t *testing.T) {
	s, p := four(t)
	stored(t, s, 4*5, list(87, 113), nil)
	holdCut(t, p, 0, api.OK)
	stored(t, s, 20+4*4+2, list(5, 80, 87, 113), list(0, 1, 85, 2, 1, 4))
	// Their headers are fresh ones: the chunks that were below them aren't any more.
	pushed(t, p, 4, 1, 4)
	tells(t, s, 1, header.Head{Pages: 4, Kind: 3, Owner: 9, Next: 0})
	pushed(t, p, 2, 85, 2)
	tells(t, s, 85, header.Head{Pages: 2, Kind: 3, Owner: 9, Next: 2})
	pushed(t, p, 1, 0, 1)
	tells(t, s, 0, header.Head{Pages: 1, Kind: 3, Owner: 9, Next: 86})
	stored(t, s, 38+3*3, list(5, 80, 87, 113), nil)
	held(t, p, list(1, 4, 85, 2, 0, 1))
}

func TestPushWithoutRoom(t *testing.T) {
	s := chunk.New(10)
	p, other := pile.New(s, 0, 1), pile.New(s, 1, 2)
	pushed(t, p, 4, 0, 4)
	pushed(t, other, 4, 4, 4)
	pushed(t, p, 2, 8, 2)
	for _, pages := range []int{1, 2, 10, 64, 65, api.MaxPages} {
		holdPush(t, p, pages, 0, 0, api.ErrFull)
		held(t, p, list(0, 4, 8, 2))
		held(t, other, list(4, 4))
	}
	// What is kept is given back, even where that is not enough; the piles stay.
	popped(t, other, 4, 4)
	stored(t, s, s.Ticks(), nil, list(4, 4))
	holdPush(t, p, 5, 0, 0, api.ErrFull)
	stored(t, s, s.Ticks(), list(4, 4), nil)
	held(t, p, list(0, 4, 8, 2))
	pushed(t, p, 3, 4, 4)
	held(t, p, list(0, 4, 8, 2, 4, 4))
	tells(t, s, 4, header.Head{Pages: 4, Owner: 1, Next: 9})
}

func TestRoomBehindATrim(t *testing.T) {
	s := chunk.New(8)
	p := pile.New(s, 0, 1)
	for i := range 4 {
		pushed(t, p, 2, 2*i, 2)
	}
	popped(t, p, 6, 2)
	popped(t, p, 4, 2)
	stored(t, s, 4*5+2*4, nil, list(6, 2, 4, 2))
	pushed(t, p, 3, 4, 4)
	// Two are given back, 1 and 2, then they are taken, 2, and the header is laid and linked, 3.
	stored(t, s, 28+8, nil, nil)
	tells(t, s, 4, header.Head{Pages: 4, Owner: 1, Next: 3})
	held(t, p, list(0, 2, 2, 2, 4, 4))
}

func TestPushOfWhatMayNotBe(t *testing.T) {
	s, p := four(t)
	ticks, b := s.Ticks(), whole(t, s)
	for _, pages := range wrongPages {
		holdPush(t, p, pages, 0, 0, api.ErrArg)
	}
	for _, kind := range wrongKinds {
		wrong := pile.New(s, kind, 9)
		for _, pages := range append([]int{1, 2, 70, api.MaxPages}, wrongPages...) {
			holdPush(t, wrong, pages, 0, 0, api.ErrArg)
		}
		held(t, wrong, nil)
	}
	keeps(t, p, fourRuns())
	stored(t, s, ticks, list(87, 113), nil)
	if !bytes.Equal(whole(t, s), b) {
		t.Error("the bytes are others")
	}
}

func TestAPileInAFullStore(t *testing.T) {
	s := chunk.New(3)
	p := pile.New(s, 255, 0)
	for page := range 3 {
		pushed(t, p, 1, page, 1)
	}
	ticks, b := s.Ticks(), whole(t, s)
	for pages := 1; pages <= 70; pages++ {
		holdPush(t, p, pages, 0, 0, api.ErrFull)
	}
	// Wrong arguments are told though there is no room.
	holdPush(t, p, 0, 0, 0, api.ErrArg)
	holdPush(t, pile.New(s, 256, 0), 1, 0, 0, api.ErrArg)
	keeps(t, p, list(0, 1, 1, 1, 2, 1))
	stored(t, s, ticks, nil, nil)
	if !bytes.Equal(whole(t, s), b) {
		t.Error("the bytes are others")
	}
}

func TestPushLaysJustAHeader(t *testing.T) {
	s := chunk.New(7)
	b := make([]byte, 7*api.Page)
	for i := range b {
		b[i] = byte(1 + (i+i/251)%255)
	}
	if err := s.Space().Store(0, b); err != api.OK {
		t.Fatal(err)
	}
	p := pile.New(s, 2, 3)
	for _, x := range []struct{ pages, page, n, next int }{{1, 0, 1, 0}, {2, 1, 2, 1}, {3, 3, 4, 2}} {
		pushed(t, p, x.pages, x.page, x.n)
		copy(b[x.page*api.Page:], "steading"+string([]byte{byte(x.n), 0, 0, 0, 2, 0, 0, 0, 3, 0, 0, 0, 0, 0, 0, 0, byte(x.next), 0, 0, 0, 0, 0, 0, 0}))
		if !bytes.Equal(whole(t, s), b) {
			t.Fatalf("behind Push(%d) the bytes aren't what they should be", x.pages)
		}
	}
	for _, x := range [][2]int{{3, 4}, {1, 2}, {0, 1}} {
		popped(t, p, x[0], x[1])
		clear(b[x[0]*api.Page : x[0]*api.Page+api.Header])
		if !bytes.Equal(whole(t, s), b) {
			t.Fatalf("behind the Pop of page %d the bytes aren't what they should be", x[0])
		}
	}
}

// P14.2

func TestPopTakesTheLastOneFirst(t *testing.T) {
	s, p := four(t)
	runs := fourRuns()
	for len(runs) > 0 {
		last := runs[len(runs)-1]
		runs = runs[:len(runs)-1]
		popped(t, p, last.Page, last.Pages)
		held(t, p, runs)
		if _, err := header.Read(s.Space().Clone(), last.Page); err != api.ErrBad {
			t.Fatalf("at %d a header still stands: %v", last.Page, err)
		}
	}
	holdPop(t, p, 0, 0, api.ErrArg)
	s.Trim()
	stored(t, s, s.Ticks(), list(0, 200), nil)
}

func TestWhatAPopTicks(t *testing.T) {
	s, p := four(t)
	ticks := s.Ticks()
	popped(t, p, 85, 2)
	// It is read, and put: read, read and cleared.
	stored(t, s, ticks+4, list(87, 113), list(85, 2))
	popped(t, p, 5, 80)
	// A large one's pages are given back, too.
	stored(t, s, ticks+8+2, list(5, 80, 87, 113), list(85, 2))
	popped(t, p, 1, 4)
	popped(t, p, 0, 1)
	stored(t, s, ticks+18, list(5, 80, 87, 113), list(0, 1, 85, 2, 1, 4))
	// There is none left: nothing is looked for.
	holdPop(t, p, 0, 0, api.ErrArg)
	holdCut(t, p, 0, api.OK)
	holdWalk(t, p, nil, api.OK)
	stored(t, s, ticks+18, list(5, 80, 87, 113), list(0, 1, 85, 2, 1, 4))
}

func TestPopOfMoreThanAreKept(t *testing.T) {
	s := chunk.New(6)
	p := pile.New(s, 0, 0)
	for page := range 6 {
		pushed(t, p, 1, page, 1)
	}
	for page := 5; page >= 0; page-- {
		popped(t, p, page, 1)
	}
	// Four of a class are kept; those that came later are free.
	stored(t, s, 6*5+6*4+1+2, list(0, 2), list(5, 1, 4, 1, 3, 1, 2, 1))
	for _, page := range []int{2, 3, 4, 5, 0, 1} {
		pushed(t, p, 1, page, 1)
	}
	held(t, p, list(2, 1, 3, 1, 4, 1, 5, 1, 0, 1, 1, 1))
}

func TestPopOfAHeaderThatIsNone(t *testing.T) {
	s, p := four(t)
	spoil(t, s, 85, 'S')
	ticks, b := s.Ticks(), whole(t, s)
	for i := range 3 {
		holdPop(t, p, 0, 0, api.ErrBad)
		keeps(t, p, fourRuns())
		// It was looked for, once.
		stored(t, s, ticks+i+1, list(87, 113), nil)
	}
	for n := range 4 {
		holdCut(t, p, n, api.ErrBad)
		keeps(t, p, fourRuns())
	}
	holdCut(t, p, 4, api.OK)
	holdCut(t, p, 5, api.OK)
	holdCut(t, p, -1, api.ErrArg)
	stored(t, s, ticks+7, list(87, 113), nil)
	if !bytes.Equal(whole(t, s), b) {
		t.Fatal("the bytes are others")
	}
	// One may be pushed on it all the same, and popped.
	pushed(t, p, 1, 87, 1)
	popped(t, p, 87, 1)
	spoil(t, s, 85, 's')
	held(t, p, fourRuns())
	popped(t, p, 85, 2)
}

func TestHeadersThatAreNone(t *testing.T) {
	for _, x := range []struct {
		at    uint64
		bytes []byte
	}{
		{0, []byte{0}}, {7, []byte("G")}, {0, []byte("steadinh")}, {8, []byte{0, 0, 0, 0}}, {8, []byte{1, 0, 16, 0}},
		{8, []byte{1, 0, 0, 128}}, {12, []byte{0, 1, 0, 0}}, {12, []byte{255, 255, 255, 255}}, {0, make([]byte, api.Header)},
	} {
		s, p := four(t)
		if err := s.Space().Store(85*api.Page+x.at, x.bytes); err != api.OK {
			t.Fatal(err)
		}
		b := whole(t, s)
		holdPop(t, p, 0, 0, api.ErrBad)
		holdCut(t, p, 0, api.ErrBad)
		holdWalk(t, p, nil, api.ErrBad)
		keeps(t, p, fourRuns())
		stored(t, s, 20+1+3, list(87, 113), nil)
		if !bytes.Equal(whole(t, s), b) {
			t.Fatal("the bytes are others")
		}
	}
}

func TestPopTellsTheHeadersPages(t *testing.T) {
	s, p := four(t)
	lay(t, s, 85, header.Head{Pages: 1, Kind: 200, Owner: 1, Next: 77})
	keeps(t, p, fourRuns())
	popped(t, p, 85, 1)
	// It went to what is kept as the header told, and the next one is on top, as Get told of it.
	stored(t, s, s.Ticks(), list(87, 113), list(85, 1))
	held(t, p, list(0, 1, 1, 4, 5, 80))
	lay(t, s, 5, header.Head{Pages: 70})
	popped(t, p, 5, 70)
	stored(t, s, s.Ticks(), list(5, 70, 87, 113), list(85, 1))
	held(t, p, list(0, 1, 1, 4))
}

func TestPopTellsPutsError(t *testing.T) {
	s, p := four(t)
	// More pages than there are can't be given back.
	lay(t, s, 85, header.Head{Pages: 1000, Kind: 3, Owner: 9, Next: 6})
	holdPop(t, p, 0, 0, api.ErrArg)
	keeps(t, p, fourRuns())
	// Put has cleared the header, ahead of that.
	holdPop(t, p, 0, 0, api.ErrBad)
	lay(t, s, 85, header.Head{Pages: 1000, Kind: 3, Owner: 9, Next: 6})
	holdCut(t, p, 1, api.ErrArg)
	keeps(t, p, fourRuns())
	lay(t, s, 85, header.Head{Pages: 2, Kind: 3, Owner: 9, Next: 6})
	held(t, p, fourRuns())
	popped(t, p, 85, 2)
}

func TestCut(t *testing.T) {
	for n := -3; n <= 8; n++ {
		s, p := four(t)
		if n < 0 {
			holdCut(t, p, n, api.ErrArg)
		} else {
			holdCut(t, p, n, api.OK)
		}
		left := 4
		if n >= 0 {
			left = min(n, 4)
		}
		keeps(t, p, fourRuns()[:left])
		if _, err := header.Read(s.Space().Clone(), 5); (err == api.OK) != (left > 2) {
			t.Fatalf("Cut(%d): the header at 5: %v", n, err)
		}
		held(t, p, fourRuns()[:left])
		// Once more there is nothing to cut.
		ticks := s.Ticks()
		holdCut(t, p, left, api.OK)
		holdCut(t, p, left+1, api.OK)
		holdCut(t, p, math.MaxInt, api.OK)
		if s.Ticks() != ticks {
			t.Fatalf("Cut of nothing ticks %d", s.Ticks()-ticks)
		}
	}
}

func TestCutBelow0(t *testing.T) {
	s, p := four(t)
	empty := pile.New(s, 0, 0)
	ticks, b := s.Ticks(), whole(t, s)
	for _, n := range []int{-1, -2, -4, -5, math.MinInt32, -1 << 32, math.MinInt + 1, math.MinInt} {
		holdCut(t, p, n, api.ErrArg)
		holdCut(t, empty, n, api.ErrArg)
	}
	keeps(t, p, fourRuns())
	stored(t, s, ticks, list(87, 113), nil)
	if !bytes.Equal(whole(t, s), b) {
		t.Error("the bytes are others")
	}
}

func TestCutPopsTheLastOneFirst(t *testing.T) {
	s, p := four(t)
	holdCut(t, p, 1, api.OK)
	// As many ticks as three pops have.
	stored(t, s, 20+3*4+2, list(5, 80, 87, 113), list(85, 2, 1, 4))
	held(t, p, list(0, 1))
	q := pile.New(s, 3, 10)
	for i := range 6 {
		pushed(t, q, 1, 5+i, 1)
	}
	holdCut(t, q, 1, api.OK)
	// The order is to be seen in what is kept, of which there are four at most.
	stored(t, s, s.Ticks(), list(6, 1, 11, 74, 87, 113), list(10, 1, 9, 1, 8, 1, 7, 1, 85, 2, 1, 4))
}

func TestTheFirstErrorEndsACut(t *testing.T) {
	for page, left := range map[int]int{0: 1, 1: 2, 5: 3, 85: 4} {
		for n := range 6 {
			s, p := four(t)
			spoil(t, s, page, 0)
			if n >= left {
				holdCut(t, p, n, api.OK)
				keeps(t, p, fourRuns()[:min(n, 4)])
				continue
			}
			holdCut(t, p, n, api.ErrBad)
			// Those above it are popped.
			keeps(t, p, fourRuns()[:left])
			holdPop(t, p, 0, 0, api.ErrBad)
			spoil(t, s, page, 's')
			held(t, p, fourRuns()[:left])
			holdCut(t, p, n, api.OK)
			held(t, p, fourRuns()[:n])
		}
	}
}

// P14.3

func TestTopAndPagesAreWhatGetTold(t *testing.T) {
	s := chunk.New(300)
	p := pile.New(s, 0, 0)
	var runs []api.Run
	at := 0
	for _, x := range [][2]int{{5, 8}, {1, 1}, {100, 100}, {33, 64}, {64, 64}, {9, 16}} {
		pushed(t, p, x[0], at, x[1])
		runs = append(runs, api.Run{Page: at, Pages: x[1]})
		at += x[1]
		held(t, p, runs)
	}
	// Headers by hand are nothing to them.
	lay(t, s, 237, header.Head{Pages: 3})
	spoil(t, s, 0, 0)
	keeps(t, p, runs)
}

func TestWalkGoesByHeaders(t *testing.T) {
	s, p := four(t)
	lay(t, s, 5, header.Head{Pages: 7, Kind: 8, Owner: 1, Next: 2})
	holdWalk(t, p, list(85, 2, 5, 7, 1, 4, 0, 1), api.OK)
	keeps(t, p, fourRuns())
	// One is left out; the walk is shorter.
	link(t, s, 85, 2)
	holdWalk(t, p, list(85, 2, 1, 4, 0, 1), api.OK)
	link(t, s, 85, 1)
	holdWalk(t, p, list(85, 2, 0, 1), api.OK)
	link(t, s, 85, 0)
	holdWalk(t, p, list(85, 2), api.OK)
	keeps(t, p, fourRuns())
	// A header that is none of the pile's is one all the same.
	lay(t, s, 199, header.Head{Pages: api.MaxPages, Kind: 1, Next: 1})
	link(t, s, 85, 200)
	holdWalk(t, p, list(85, 2, 199, api.MaxPages, 0, 1), api.OK)
}

func TestWalkTellsNoMoreThanThereAre(t *testing.T) {
	s, p := four(t)
	for _, x := range []struct {
		page int
		next uint64
		want []api.Run
	}{
		// Round at once, round by two, and one more below the first one.
		{85, 86, list(85, 2, 85, 2, 85, 2, 85, 2)},
		{5, 86, list(85, 2, 5, 80, 85, 2, 5, 80)},
		{0, 6, list(85, 2, 5, 80, 1, 4, 0, 1)},
	} {
		h, err := header.Read(s.Space(), x.page)
		if err != api.OK {
			t.Fatal(err)
		}
		link(t, s, x.page, x.next)
		ticks := s.Ticks()
		holdWalk(t, p, x.want, api.OK)
		// Nothing is read beyond the last one.
		if s.Ticks() != ticks+4 {
			t.Fatalf("%d ticks", s.Ticks()-ticks)
		}
		link(t, s, x.page, h.Next)
	}
	// Nor where nothing stands beyond it.
	link(t, s, 0, 100)
	holdWalk(t, p, list(85, 2, 5, 80, 1, 4, 0, 1), api.OK)
	link(t, s, 0, top)
	holdWalk(t, p, list(85, 2, 5, 80, 1, 4, 0, 1), api.OK)
}

func TestWalkEndsAtAHeaderThatIsNone(t *testing.T) {
	for i, page := range []int{85, 5, 1, 0} {
		s, p := four(t)
		spoil(t, s, page, 'x')
		ticks := s.Ticks()
		holdWalk(t, p, nil, api.ErrBad)
		keeps(t, p, fourRuns())
		// Those above it were read, and it was looked for.
		stored(t, s, ticks+i+1, list(87, 113), nil)
		spoil(t, s, page, 's')
		held(t, p, fourRuns())
	}
}

func TestWalkToWhereNoPageIs(t *testing.T) {
	for _, x := range []struct {
		next uint64
		want api.Errno
	}{
		{100, api.ErrBad}, {3, api.ErrBad}, {200, api.ErrBad}, {201, api.ErrRange}, {202, api.ErrRange}, {api.MaxPages, api.ErrRange}, {api.MaxPages + 1, api.ErrRange},
		{1<<32 + 1, api.ErrRange}, {1<<52 + 1, api.ErrRange}, {1 << 63, api.ErrRange}, {1<<63 + 1, api.ErrRange}, {1<<63 + 2, api.ErrRange}, {top - 1, api.ErrRange}, {top, api.ErrRange},
	} {
		s, p := four(t)
		link(t, s, 5, x.next)
		holdWalk(t, p, nil, x.want)
		keeps(t, p, fourRuns())
		// Pops don't go by it.
		popped(t, p, 85, 2)
		holdWalk(t, p, nil, x.want)
		popped(t, p, 5, 80)
		held(t, p, list(0, 1, 1, 4))
	}
}

func TestWhatAWalkTicks(t *testing.T) {
	s, p := four(t)
	for n := 4; n >= 0; n-- {
		holdCut(t, p, n, api.OK)
		ticks := s.Ticks()
		held(t, p, fourRuns()[:n])
		if s.Ticks() != ticks+n {
			t.Errorf("a walk of %d ticks %d", n, s.Ticks()-ticks)
		}
	}
}

func TestAWalksListMayBeChanged(t *testing.T) {
	_, p := four(t)
	l, err := p.Walk()
	if len(l) != 4 || err != api.OK {
		t.Fatal(l, err)
	}
	again, _ := p.Walk()
	clear(l)
	l = append(l, api.Run{Page: 3, Pages: 3})
	held(t, p, fourRuns())
	popped(t, p, 85, 2)
	pushed(t, p, 1, 87, 1)
	held(t, p, list(0, 1, 1, 4, 5, 80, 87, 1))
	// Nor is what was told changed by what comes later.
	if !slices.Equal(again, list(85, 2, 5, 80, 1, 4, 0, 1)) {
		t.Errorf("Walk's list is %v later", again)
	}
}

// P14.4

func TestNilPile(t *testing.T) {
	var p *pile.Pile
	for range 2 {
		held(t, p, nil)
		for _, pages := range append([]int{1, 2, 70, api.MaxPages}, wrongPages...) {
			holdPush(t, p, pages, 0, 0, api.ErrArg)
		}
		holdPop(t, p, 0, 0, api.ErrArg)
		for _, n := range []int{0, 1, 2, math.MaxInt, -1, math.MinInt} {
			holdCut(t, p, n, api.ErrArg)
		}
	}
}

func TestPileOfANilStore(t *testing.T) {
	for _, kind := range append([]int{0, 1, 255}, wrongKinds...) {
		p := pile.New(nil, kind, 3)
		for range 2 {
			for _, pages := range append([]int{1, 2, 64, 65, api.MaxPages}, wrongPages...) {
				holdPush(t, p, pages, 0, 0, api.ErrArg)
			}
			held(t, p, nil)
			holdPop(t, p, 0, 0, api.ErrArg)
			holdCut(t, p, 0, api.OK)
			holdCut(t, p, 1, api.OK)
			holdCut(t, p, -1, api.ErrArg)
		}
	}
}

func TestChunksThatAreGivenBackByHand(t *testing.T) {
	s, p := four(t)
	if err := s.Put(85); err != api.OK {
		t.Fatal(err)
	}
	// Its header is none any more; nothing panics.
	holdPop(t, p, 0, 0, api.ErrBad)
	holdWalk(t, p, nil, api.ErrBad)
	holdCut(t, p, 2, api.ErrBad)
	keeps(t, p, fourRuns())
}

// P14.5

// turns are piles of one Store, and what they are held against.
type turns struct {
	s, twin *chunk.Store
	piles   []*pile.Pile
	plains  []*plain
}

// newTurns is so many piles of a Store of so many pages.
func newTurns(pages, piles int) *turns {
	x := &turns{s: chunk.New(pages), twin: chunk.New(pages)}
	for i := range piles {
		x.piles = append(x.piles, pile.New(x.s, i, uint64(100+i)))
		x.plains = append(x.plains, &plain{s: x.twin, kind: i, owner: uint64(100 + i)})
	}
	return x
}

// hold fails, unless all piles, and their Store, are as the plain ones are.
func (x *turns) hold(t *testing.T) {
	t.Helper()
	for i, p := range x.piles {
		keeps(t, p, x.plains[i].runs)
		holdWalk(t, p, x.plains[i].walk(), api.OK)
	}
	same(t, x.s, x.twin)
	// Each page is free, kept, or on one pile.
	free, _ := x.s.Free()
	pages := free + sum(x.s.Cached())
	for _, p := range x.piles {
		pages += p.Pages()
	}
	if pages != x.s.Space().Pages() {
		t.Fatalf("%d pages in all", pages)
	}
}

func (x *turns) push(t *testing.T, i, pages int) {
	t.Helper()
	page, n, err := x.plains[i].push(pages)
	holdPush(t, x.piles[i], pages, page, n, err)
}

func (x *turns) pop(t *testing.T, i int) {
	t.Helper()
	page, n, err := x.plains[i].pop()
	holdPop(t, x.piles[i], page, n, err)
}

func (x *turns) cut(t *testing.T, i, n int) {
	t.Helper()
	holdCut(t, x.piles[i], n, x.plains[i].cut(n))
}

func TestAllOrdersOfAFewCalls(t *testing.T) {
	calls := []func(*testing.T, *turns){
		func(t *testing.T, x *turns) { x.push(t, 0, 1) },
		func(t *testing.T, x *turns) { x.push(t, 0, 3) },
		func(t *testing.T, x *turns) { x.push(t, 1, 2) },
		func(t *testing.T, x *turns) { x.pop(t, 0) },
		func(t *testing.T, x *turns) { x.pop(t, 1) },
		func(t *testing.T, x *turns) { x.cut(t, 0, 1) },
	}
	const steps = 5
	for order := range 6 * 6 * 6 * 6 * 6 {
		x := newTurns(9, 2)
		for range steps {
			calls[order%6](t, x)
			order /= 6
		}
		x.hold(t)
	}
}

// walked goes many steps on some piles of one Store, and holds each.
func walked(t *testing.T, seed uint64, pages, piles, steps, most int) {
	t.Helper()
	x, next := newTurns(pages, piles), chance(seed)
	for range steps {
		i := next(piles)
		switch next(10) {
		case 0, 1, 2, 3, 4:
			x.push(t, i, next(most+2)-1)
		case 5, 6, 7:
			x.pop(t, i)
		case 8:
			x.cut(t, i, next(12)-2)
		default:
			if next(4) == 0 {
				if got, want := x.s.Trim(), x.twin.Trim(); got != want {
					t.Fatalf("Trim() = %d, want %d", got, want)
				}
			}
		}
		x.hold(t)
	}
	for i := range piles {
		x.cut(t, i, 0)
	}
	x.hold(t)
	x.s.Trim()
	if runs := x.s.Runs(); !slices.Equal(runs, list(0, pages)) {
		t.Fatalf("all is given back, but the free runs are %v", runs)
	}
}

func TestManySteps(t *testing.T) {
	for seed := range uint64(4) {
		walked(t, seed, 250, 1, 400, 70)
		walked(t, seed+10, 40, 1, 400, 9)
		walked(t, seed+20, 250, 2, 400, 100)
		walked(t, seed+30, 30, 2, 400, 5)
		walked(t, seed+40, 100, 5, 400, 20)
	}
}

func TestPilesOfOneStorePlayNoPartForOneAnother(t *testing.T) {
	s := chunk.New(50)
	p, q := pile.New(s, 1, 1), pile.New(s, 1, 1)
	for i := range 8 {
		pushed(t, p, 2, 4*i, 2)
		pushed(t, q, 2, 4*i+2, 2)
	}
	for page := 0; page < 32; page += 2 {
		want := header.Head{Pages: 2, Kind: 1, Owner: 1}
		if page >= 4 {
			want.Next = uint64(page) - 3
		}
		tells(t, s, page, want)
	}
	holdCut(t, p, 3, api.OK)
	held(t, p, list(0, 2, 4, 2, 8, 2))
	held(t, q, list(2, 2, 6, 2, 10, 2, 14, 2, 18, 2, 22, 2, 26, 2, 30, 2))
	spoil(t, s, 8, 0)
	holdWalk(t, p, nil, api.ErrBad)
	held(t, q, list(2, 2, 6, 2, 10, 2, 14, 2, 18, 2, 22, 2, 26, 2, 30, 2))
	holdCut(t, q, 0, api.OK)
	keeps(t, p, list(0, 2, 4, 2, 8, 2))
	spoil(t, s, 8, 's')
	held(t, p, list(0, 2, 4, 2, 8, 2))
}

func TestWhatIsPushedBehindAPop(t *testing.T) {
	s := chunk.New(100)
	p := pile.New(s, 0, 0)
	for i := range 20 {
		pushed(t, p, 1, i, 1)
	}
	// Down to each number, and up again by chunks of other sizes.
	for n := 19; n >= 0; n-- {
		holdCut(t, p, n, api.OK)
		before, err := p.Walk()
		if err != api.OK {
			t.Fatal(err)
		}
		for range 3 {
			if _, _, err := p.Push(2); err != api.OK {
				t.Fatal(err)
			}
		}
		if l, err := p.Walk(); len(l) != n+3 || !slices.Equal(l[3:], before) || err != api.OK {
			t.Fatalf("Walk() = %v, %v above %v", l, err, before)
		}
	}
}

func TestTwiceTheSame(t *testing.T) {
	x, next := newTurns(60, 2), chance(5)
	y, again := newTurns(60, 2), chance(5)
	for _, z := range []struct {
		*turns
		next func(int) int
	}{{x, next}, {y, again}} {
		for range 200 {
			i := z.next(2)
			if z.next(3) == 0 {
				z.pop(t, i)
			} else {
				z.push(t, i, z.next(6))
			}
		}
		z.hold(t)
	}
	same(t, x.s, y.s)
	for i := range 2 {
		keeps(t, x.piles[i], y.plains[i].runs)
	}
}

// The signatures, of which the compiler tells.
var (
	_ func(*chunk.Store, int, uint64) *pile.Pile  = pile.New
	_ func(*pile.Pile, int) (int, int, api.Errno) = (*pile.Pile).Push
	_ func(*pile.Pile) (int, int, api.Errno)      = (*pile.Pile).Pop
	_ func(*pile.Pile) (api.Run, bool)            = (*pile.Pile).Top
	_ func(*pile.Pile) int                        = (*pile.Pile).Len
	_ func(*pile.Pile) int                        = (*pile.Pile).Pages
	_ func(*pile.Pile, int) api.Errno             = (*pile.Pile).Cut
	_ func(*pile.Pile) ([]api.Run, api.Errno)     = (*pile.Pile).Walk
)
