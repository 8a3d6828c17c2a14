package header_test

import (
	"bytes"
	"math"
	"slices"
	"testing"

	"steading/api"
	"steading/header"
	"steading/space"
)

const (
	top  = ^uint64(0)
	page = uint64(api.Page)
)

// heads are right ones: the ends of each field, alone and together, and numbers all of whose bytes are told apart.
func heads() []header.Head {
	var l []header.Head
	for _, pages := range []int{1, 2, 255, 256, 65535, 65536, 0x010203, api.MaxPages - 1, api.MaxPages} {
		for _, kind := range []int{0, 1, 127, 128, 254, 255} {
			l = append(l, header.Head{Pages: pages, Kind: kind, Owner: 0x0102030405060708, Next: 0x1112131415161718})
		}
	}
	for _, owner := range numbers() {
		for _, next := range numbers() {
			l = append(l, header.Head{Pages: 3, Kind: 7, Owner: owner, Next: next})
		}
	}
	return l
}

// numbers are what may stand as Owner and Next: the least, the greatest, those around the sign, and some between.
func numbers() []uint64 {
	return []uint64{0, 1, 255, 256, 1<<32 - 1, 1 << 32, 0xfedcba9876543210, 1<<63 - 1, 1 << 63, top - 1, top}
}

// wrong are heads that may not be: each bound of Pages, of Kind and of both, also where 4 bytes of them would be right.
func wrong() []header.Head {
	var l []header.Head
	for _, pages := range []int{0, -1, -2, api.MaxPages + 1, 2 * api.MaxPages, 1 << 32, 1<<32 + 1, -1<<32 + 1, math.MaxInt, math.MinInt, math.MinInt + 1} {
		for _, kind := range []int{0, 9, 255, -1, 256} {
			l = append(l, header.Head{Pages: pages, Kind: kind, Owner: 4, Next: 5})
		}
	}
	for _, kind := range []int{-1, -2, 256, 257, 512, 1 << 16, 1 << 32, 1<<32 + 1, -1 << 32, math.MaxInt, math.MinInt, math.MinInt + 1} {
		for _, pages := range []int{1, 2, api.MaxPages} {
			l = append(l, header.Head{Pages: pages, Kind: kind, Owner: 4, Next: 5})
		}
	}
	return append(l, header.Head{})
}

// beyond are pages that aren't in a space of so many: also such whose place, if it went round, would be in it.
func beyond(pages int) []int {
	return []int{-1, -2, -pages, pages, pages + 1, 2*pages + 3, api.MaxPages, api.MaxPages + 1, 1 << 32, 1 << 51, 1<<52 - 1, 1 << 52, 1<<52 + 1, 1 << 62, -1 << 52, 1 - 1<<52, math.MaxInt, math.MaxInt - 1, math.MinInt, math.MinInt + 1}
}

// bytesOf is a number's bytes by division, the least one first.
func bytesOf(n uint64, width int) []byte {
	var l []byte
	for range width {
		l = append(l, byte(n%256))
		n /= 256
	}
	return l
}

// headerOf is a header's bytes, one field behind the other.
func headerOf(h header.Head) []byte {
	return slices.Concat([]byte("steading"), bytesOf(uint64(h.Pages), 4), bytesOf(uint64(h.Kind), 4), bytesOf(h.Owner, 8), bytesOf(h.Next, 8))
}

// made is a space of pages all of whose bytes are told apart, none of them 0, and these bytes.
func made(t *testing.T, pages int) (*space.Space, []byte) {
	t.Helper()
	s, b := space.New(pages), make([]byte, pages*api.Page)
	for i := range b {
		b[i] = byte(1 + (i+i/251)%255)
	}
	for i := range pages {
		from := uint64(i) * page
		ok(t, "Store of a page", s.Store(from, b[from:from+page]))
	}
	return s, b
}

// whole is all bytes of a space; it doesn't tick there, since they are loaded from a clone.
func whole(t *testing.T, s *space.Space) []byte {
	t.Helper()
	c := s.Clone()
	var all []byte
	for i := range c.Pages() {
		b, err := c.Load(uint64(i)*page, page)
		ok(t, "Load of a page", err)
		all = append(all, b...)
	}
	return all
}

// same fails, unless a space has just these bytes.
func same(t *testing.T, s *space.Space, want []byte, what string, of ...any) {
	t.Helper()
	if !bytes.Equal(whole(t, s), want) {
		t.Errorf("the bytes aren't what they should be behind "+what, of...)
	}
}

// ok fails, unless there was no error.
func ok(t *testing.T, what string, err api.Errno) {
	t.Helper()
	if err != api.OK {
		t.Fatalf("%s: %v", what, err)
	}
}

// tells fails, unless just this header stands at a page.
func tells(t *testing.T, s *space.Space, at int, want header.Head) {
	t.Helper()
	if h, err := header.Read(s, at); h != want || err != api.OK {
		t.Errorf("Read at %d: %+v, %v, want %+v", at, h, err, want)
	}
}

// unread fails, unless Read, Link and Clear tell an error at a page, and nothing beside it.
func unread(t *testing.T, s *space.Space, at int, want api.Errno) {
	t.Helper()
	if h, err := header.Read(s, at); h != (header.Head{}) || err != want {
		t.Errorf("Read at %d: %+v, %v, want %v", at, h, err, want)
	}
	if err := header.Link(s, at, 0x2122232425262728); err != want {
		t.Errorf("Link at %d: %v, want %v", at, err, want)
	}
	if err := header.Clear(s, at); err != want {
		t.Errorf("Clear at %d: %v, want %v", at, err, want)
	}
}

// ticks fails, unless a call ticks so often.
func ticks(t *testing.T, s *space.Space, want int, what string, call func()) {
	t.Helper()
	n := s.Ticks()
	call()
	if got := s.Ticks() - n; got != want {
		t.Errorf("%s: %d ticks, want %d", what, got, want)
	}
}

// P8.1

func TestExamples(t *testing.T) {
	s := space.New(4)
	ok(t, "Write", header.Write(s, 3, header.Head{Pages: 2, Kind: 1, Owner: 7}))
	tells(t, s, 3, header.Head{Pages: 2, Kind: 1, Owner: 7})
	ok(t, "Link", header.Link(s, 3, 5))
	tells(t, s, 3, header.Head{Pages: 2, Kind: 1, Owner: 7, Next: 5})
	ok(t, "Clear", header.Clear(s, 3))
	unread(t, s, 3, api.ErrBad)
}

func TestWriteOfKnown(t *testing.T) {
	for _, x := range []struct {
		h    header.Head
		want string
	}{
		{header.Head{Pages: 1}, "steading\x01\x00\x00\x00\x00\x00\x00\x00\x00\x00\x00\x00\x00\x00\x00\x00\x00\x00\x00\x00\x00\x00\x00\x00"},
		{header.Head{Pages: api.MaxPages, Kind: 255, Owner: top, Next: top}, "steading\x00\x00\x10\x00\xff\x00\x00\x00\xff\xff\xff\xff\xff\xff\xff\xff\xff\xff\xff\xff\xff\xff\xff\xff"},
		{header.Head{Pages: 0x0a0b0c, Kind: 13, Owner: 0x0102030405060708, Next: 0x1112131415161718}, "steading\x0c\x0b\x0a\x00\x0d\x00\x00\x00\x08\x07\x06\x05\x04\x03\x02\x01\x18\x17\x16\x15\x14\x13\x12\x11"},
		{header.Head{Pages: 2, Kind: 1, Owner: 7}, "steading\x02\x00\x00\x00\x01\x00\x00\x00\x07\x00\x00\x00\x00\x00\x00\x00\x00\x00\x00\x00\x00\x00\x00\x00"},
	} {
		s := space.New(3)
		ok(t, "Write", header.Write(s, 1, x.h))
		if got := whole(t, s)[page : page+api.Header]; string(got) != x.want {
			t.Errorf("Write of %+v: %q, want %q", x.h, got, x.want)
		}
	}
}

func TestWriteLaysItsBytesAlone(t *testing.T) {
	for _, laid := range []bool{false, true} {
		for _, at := range []int{0, 1, 2} {
			s, b := space.New(3), make([]byte, 3*page)
			if laid {
				s, b = made(t, 3)
			}
			for _, h := range heads() {
				ok(t, "Write", header.Write(s, at, h))
				if got := copy(b[uint64(at)*page:], headerOf(h)); got != api.Header {
					t.Fatalf("a header of %d bytes", got)
				}
				same(t, s, b, "Write of %+v at %d (laid ahead: %v)", h, at, laid)
				tells(t, s, at, h)
			}
			same(t, s, b, "Read")
		}
	}
}

func TestReadOfBytesThatWereStored(t *testing.T) {
	for _, h := range heads() {
		s, b := made(t, 2)
		ok(t, "Store", s.Store(page, headerOf(h)))
		copy(b[page:], headerOf(h))
		tells(t, s, 1, h)
		same(t, s, b, "Read of %+v", h)
		unread(t, s, 0, api.ErrBad)
	}
}

func TestEachKind(t *testing.T) {
	s := space.New(1)
	for kind := -300; kind <= 600; kind++ {
		h := header.Head{Pages: 1, Kind: kind}
		want := api.ErrArg
		if kind >= 0 && kind <= 255 {
			want = api.OK
		}
		if err := header.Write(s, 0, h); err != want {
			t.Errorf("Write of kind %d: %v, want %v", kind, err, want)
		}
		if want == api.OK {
			tells(t, s, 0, h)
		}
	}
	tells(t, s, 0, header.Head{Pages: 1, Kind: 255})
}

func TestWriteOfHeadsThatMayNotBe(t *testing.T) {
	s, b := made(t, 3)
	n := s.Ticks()
	for _, h := range wrong() {
		for _, at := range []int{0, 1, 2} {
			if err := header.Write(s, at, h); err != api.ErrArg {
				t.Errorf("Write of %+v at %d: %v", h, at, err)
			}
		}
		// ErrArg is named ahead of ErrRange.
		for _, at := range beyond(3) {
			if err := header.Write(s, at, h); err != api.ErrArg {
				t.Errorf("Write of %+v at %d: %v", h, at, err)
			}
		}
		if err := header.Write(nil, 0, h); err != api.ErrArg {
			t.Errorf("Write of %+v to nil: %v", h, err)
		}
	}
	same(t, s, b, "heads that may not be")
	if s.Ticks() != n {
		t.Errorf("%d ticks", s.Ticks()-n)
	}
}

func TestPagesThatAreNotInTheSpace(t *testing.T) {
	for _, pages := range []int{1, 2, 5} {
		s, b := made(t, pages)
		// With headers in it, so that a place that went round would find one.
		for i := range pages {
			h := header.Head{Pages: 1 + i, Kind: i}
			ok(t, "Write", header.Write(s, i, h))
			copy(b[uint64(i)*page:], headerOf(h))
		}
		n := s.Ticks()
		for _, at := range beyond(pages) {
			for _, h := range heads() {
				if err := header.Write(s, at, h); err != api.ErrRange {
					t.Errorf("Write of %+v at %d of %d: %v", h, at, pages, err)
				}
			}
			unread(t, s, at, api.ErrRange)
		}
		same(t, s, b, "pages that aren't in %d", pages)
		if s.Ticks() != n {
			t.Errorf("%d ticks", s.Ticks()-n)
		}
	}
}

func TestTheGreatestSpacesLastPage(t *testing.T) {
	s := space.New(api.MaxPages)
	h := header.Head{Pages: 1, Kind: 9, Owner: 8, Next: 7}
	for _, at := range []int{api.MaxPages - 1, 0} {
		unread(t, s, at, api.ErrBad)
		ok(t, "Write", header.Write(s, at, h))
		tells(t, s, at, h)
		ok(t, "Link", header.Link(s, at, 3))
		tells(t, s, at, header.Head{Pages: 1, Kind: 9, Owner: 8, Next: 3})
	}
	ok(t, "Clear", header.Clear(s, api.MaxPages-1))
	unread(t, s, api.MaxPages-1, api.ErrBad)
	tells(t, s, 0, header.Head{Pages: 1, Kind: 9, Owner: 8, Next: 3})
	unread(t, s, api.MaxPages, api.ErrRange)
	if err := header.Write(s, api.MaxPages, h); err != api.ErrRange {
		t.Error(err)
	}
}

// notRight fails, unless bytes at a page's beginning are none of a header, and stay.
func notRight(t *testing.T, b []byte, what string) {
	t.Helper()
	s, all := made(t, 3)
	ok(t, "Store", s.Store(page, b))
	copy(all[page:], b)
	unread(t, s, 1, api.ErrBad)
	same(t, s, all, what)
}

func TestBytesThatBeginOtherwise(t *testing.T) {
	right := headerOf(header.Head{Pages: 4, Kind: 2, Owner: 3, Next: 5})
	for i := range 8 {
		for _, other := range []byte{0, 1, 255, ' ', 'S', right[i] - 1, right[i] + 1, right[i] ^ 0x20, right[i] ^ 0x80} {
			b := slices.Clone(right)
			b[i] = other
			notRight(t, b, "bytes that begin otherwise")
		}
	}
	for _, text := range []string{"STEADING", "gnidaets", "teading\x00", "\x00steadin", "        "} {
		notRight(t, append([]byte(text), right[8:]...), text)
	}
	// A header that begins a byte too late, or that fills the page's end, is none of the page.
	notRight(t, append([]byte{'s'}, right...), "a header at another place")
	notRight(t, append(make([]byte, 8), right...), "a header at another place")
	notRight(t, append(make([]byte, api.Page-api.Header), right...), "a header at the page's end")
	notRight(t, make([]byte, api.Header), "zeros")
}

func TestBytesThatTellWhatMayNotBe(t *testing.T) {
	for _, x := range []struct{ pages, kind uint64 }{
		{0, 0}, {0, 255}, {api.MaxPages + 1, 0}, {api.MaxPages + 1, 255}, {2 * api.MaxPages, 3}, {1 << 24, 3}, {1<<24 + 1, 3}, {1 << 31, 3}, {1<<31 + 1, 3}, {1<<32 - 1, 3},
		{1, 256}, {1, 257}, {1, 511}, {1, 1 << 16}, {1, 1 << 24}, {1, 1 << 31}, {1, 1<<31 + 1}, {1, 1<<32 - 1}, {api.MaxPages, 256}, {0, 256}, {1<<32 - 1, 1<<32 - 1},
	} {
		b := slices.Concat([]byte("steading"), bytesOf(x.pages, 4), bytesOf(x.kind, 4), bytesOf(1, 8), bytesOf(2, 8))
		notRight(t, b, "bytes that tell what may not be")
	}
}

func TestWhatStandsBehindAHeaderPlaysNoPart(t *testing.T) {
	h := header.Head{Pages: 5, Kind: 6, Owner: 7, Next: 8}
	for _, fill := range []byte{0, 1, 's', 255} {
		s, b := space.New(2), bytes.Repeat([]byte{fill}, 2*api.Page)
		ok(t, "Store", s.Store(0, b))
		ok(t, "Write", header.Write(s, 0, h))
		copy(b, headerOf(h))
		tells(t, s, 0, h)
		ok(t, "Link", header.Link(s, 0, 9))
		b[24] = 9
		same(t, s, b, "Link, before %d", fill)
		for i := api.Header; i < 2*api.Page; i += 61 {
			ok(t, "Store", s.Store(uint64(i), []byte{fill + 1}))
			b[i] = fill + 1
		}
		tells(t, s, 0, header.Head{Pages: 5, Kind: 6, Owner: 7, Next: 9})
		ok(t, "Clear", header.Clear(s, 0))
		clear(b[:api.Header])
		same(t, s, b, "Clear, before %d", fill)
	}
}

// P8.2

func TestLinkChangesNextAlone(t *testing.T) {
	for _, at := range []int{0, 1, 2} {
		s, b := made(t, 3)
		for _, h := range heads() {
			ok(t, "Write", header.Write(s, at, h))
			copy(b[uint64(at)*page:], headerOf(h))
			for _, next := range append(numbers(), h.Next, ^h.Next) {
				ok(t, "Link", header.Link(s, at, next))
				copy(b[uint64(at)*page+24:], bytesOf(next, 8))
				h.Next = next
				tells(t, s, at, h)
			}
			same(t, s, b, "Link of %+v at %d", h, at)
		}
	}
}

func TestClearMakesItsBytesZero(t *testing.T) {
	for _, at := range []int{0, 1, 2} {
		for _, h := range heads() {
			s, b := made(t, 3)
			ok(t, "Write", header.Write(s, at, h))
			ok(t, "Clear", header.Clear(s, at))
			clear(b[uint64(at)*page : uint64(at)*page+api.Header])
			same(t, s, b, "Clear of %+v at %d", h, at)
			unread(t, s, at, api.ErrBad)
			same(t, s, b, "what isn't there any more")
			ok(t, "Write", header.Write(s, at, h))
			tells(t, s, at, h)
		}
	}
}

func TestLinkAndClearWhereThereIsNone(t *testing.T) {
	for _, laid := range []bool{false, true} {
		s, b := space.New(3), make([]byte, 3*page)
		if laid {
			s, b = made(t, 3)
		}
		for at := range 3 {
			unread(t, s, at, api.ErrBad)
		}
		same(t, s, b, "what is none of a header (laid ahead: %v)", laid)
	}
}

// P8.3

func TestTicks(t *testing.T) {
	h := header.Head{Pages: 2, Kind: 3, Owner: 4, Next: 5}
	for _, pages := range []int{1, 4} {
		for at := range pages {
			s := space.New(pages)
			ticks(t, s, 1, "Write", func() { ok(t, "Write", header.Write(s, at, h)) })
			ticks(t, s, 1, "Write over a header", func() { ok(t, "Write", header.Write(s, at, h)) })
			ticks(t, s, 1, "Read", func() { tells(t, s, at, h) })
			ticks(t, s, 2, "Link", func() { ok(t, "Link", header.Link(s, at, 6)) })
			ticks(t, s, 2, "Link of what it tells", func() { ok(t, "Link", header.Link(s, at, 6)) })
			ticks(t, s, 2, "Clear", func() { ok(t, "Clear", header.Clear(s, at)) })
		}
	}
}

func TestTicksWithErrors(t *testing.T) {
	h := header.Head{Pages: 2, Kind: 3, Owner: 4, Next: 5}
	bad := slices.Concat([]byte("steading"), bytesOf(0, 4), bytesOf(3, 4), bytesOf(4, 8), bytesOf(5, 8))
	for _, laid := range []bool{false, true} {
		s := space.New(2)
		if laid {
			ok(t, "Store", s.Store(page, bad))
		}
		for _, at := range []int{0, 1} {
			ticks(t, s, 1, "Read with ErrBad", func() { header.Read(s, at) })
			ticks(t, s, 1, "Link with ErrBad", func() { header.Link(s, at, 1) })
			ticks(t, s, 1, "Clear with ErrBad", func() { header.Clear(s, at) })
		}
		ticks(t, s, 0, "Write with ErrArg", func() { header.Write(s, 0, header.Head{}) })
		ticks(t, s, 0, "Write with ErrArg, and beyond", func() { header.Write(s, 2, header.Head{}) })
		for _, at := range beyond(2) {
			ticks(t, s, 0, "Write with ErrRange", func() { header.Write(s, at, h) })
			ticks(t, s, 0, "Read with ErrRange", func() { header.Read(s, at) })
			ticks(t, s, 0, "Link with ErrRange", func() { header.Link(s, at, 1) })
			ticks(t, s, 0, "Clear with ErrRange", func() { header.Clear(s, at) })
		}
	}
}

func TestOfANilSpace(t *testing.T) {
	for _, at := range append(beyond(1), 0, 1, 2) {
		for _, h := range heads() {
			if err := header.Write(nil, at, h); err != api.ErrRange {
				t.Errorf("Write of %+v at %d: %v", h, at, err)
			}
		}
		for _, h := range wrong() {
			if err := header.Write(nil, at, h); err != api.ErrArg {
				t.Errorf("Write of %+v at %d: %v", h, at, err)
			}
		}
		unread(t, nil, at, api.ErrRange)
	}
}

// P8.4

func TestHeadersOfManyPages(t *testing.T) {
	const pages = 64
	s, b := made(t, pages)
	for i := range pages {
		h := header.Head{Pages: i + 1, Kind: 4 * i, Owner: uint64(i) << 40, Next: top - uint64(i)}
		ok(t, "Write", header.Write(s, i, h))
		copy(b[i*api.Page:], headerOf(h))
	}
	for i := range pages {
		tells(t, s, i, header.Head{Pages: i + 1, Kind: 4 * i, Owner: uint64(i) << 40, Next: top - uint64(i)})
	}
	for i := 0; i < pages; i += 2 {
		ok(t, "Clear", header.Clear(s, i))
		clear(b[i*api.Page : i*api.Page+api.Header])
	}
	for i := 1; i < pages; i += 2 {
		ok(t, "Link", header.Link(s, i, uint64(i-1)))
		copy(b[i*api.Page+24:], bytesOf(uint64(i-1), 8))
	}
	for i := range pages {
		if i%2 == 0 {
			unread(t, s, i, api.ErrBad)
			continue
		}
		tells(t, s, i, header.Head{Pages: i + 1, Kind: 4 * i, Owner: uint64(i) << 40, Next: uint64(i - 1)})
	}
	same(t, s, b, "headers of many pages")
}

// model is headers by their pages, and how often they should have ticked.
type model struct {
	heads map[int]header.Head
	ticks int
}

// found counts a Read, and is the error that it should tell.
func (m *model) found(pages, at int) api.Errno {
	if at < 0 || at >= pages {
		return api.ErrRange
	}
	m.ticks++
	if _, in := m.heads[at]; !in {
		return api.ErrBad
	}
	return api.OK
}

// step does one call to a space and to its model, and is what the call told.
func step(t *testing.T, s *space.Space, m *model, rnd func(n int) int) (header.Head, api.Errno) {
	t.Helper()
	at := rnd(s.Pages()+2) - 1
	switch rnd(4) {
	case 0:
		h := header.Head{Pages: rnd(api.MaxPages + 2), Kind: rnd(300) - 20, Owner: uint64(rnd(1 << 30)), Next: uint64(rnd(9))}
		want := api.OK
		switch {
		case h.Pages < 1 || h.Pages > api.MaxPages || h.Kind < 0 || h.Kind > 255:
			want = api.ErrArg
		case at < 0 || at >= s.Pages():
			want = api.ErrRange
		default:
			m.heads[at] = h
			m.ticks++
		}
		err := header.Write(s, at, h)
		if err != want {
			t.Fatalf("Write of %+v at %d: %v, want %v", h, at, err, want)
		}
		return header.Head{}, err
	case 1:
		want := m.found(s.Pages(), at)
		h, err := header.Read(s, at)
		if h != m.heads[at] || err != want {
			t.Fatalf("Read at %d: %+v, %v, want %+v, %v", at, h, err, m.heads[at], want)
		}
		return h, err
	case 2:
		want, next := m.found(s.Pages(), at), uint64(rnd(1<<30))<<33
		if want == api.OK {
			h := m.heads[at]
			h.Next = next
			m.heads[at] = h
			m.ticks++
		}
		err := header.Link(s, at, next)
		if err != want {
			t.Fatalf("Link at %d: %v, want %v", at, err, want)
		}
		return header.Head{}, err
	default:
		want := m.found(s.Pages(), at)
		if want == api.OK {
			delete(m.heads, at)
			m.ticks++
		}
		err := header.Clear(s, at)
		if err != want {
			t.Fatalf("Clear at %d: %v, want %v", at, err, want)
		}
		return header.Head{}, err
	}
}

// told is what one call answered.
type told struct {
	h   header.Head
	err api.Errno
}

// many does many calls, and is all that they told, and the space.
func many(t *testing.T, seed uint64, pages, calls int) ([]told, *space.Space) {
	t.Helper()
	rnd := func(n int) int {
		seed = seed*6364136223846793005 + 1442695040888963407
		return int(seed>>33) % n
	}
	s, m := space.New(pages), &model{heads: map[int]header.Head{}}
	var l []told
	for range calls {
		h, err := step(t, s, m, rnd)
		l = append(l, told{h, err})
		if s.Ticks() != m.ticks {
			t.Fatalf("%d ticks, want %d", s.Ticks(), m.ticks)
		}
	}
	want := make([]byte, pages*api.Page)
	for at, h := range m.heads {
		copy(want[at*api.Page:], headerOf(h))
	}
	same(t, s, want, "many calls")
	return l, s
}

func TestManyCalls(t *testing.T) {
	for seed := range uint64(8) {
		pages := 1 + int(seed)*3
		a, one := many(t, seed, pages, 4000)
		b, two := many(t, seed, pages, 4000)
		if !slices.Equal(a, b) || !bytes.Equal(whole(t, one), whole(t, two)) {
			t.Errorf("seed %d: twice, and not the same", seed)
		}
	}
}

func TestSpacesAreApart(t *testing.T) {
	a, b := space.New(2), space.New(2)
	h := header.Head{Pages: 1, Kind: 2, Owner: 3, Next: 4}
	ok(t, "Write", header.Write(a, 1, h))
	unread(t, b, 1, api.ErrBad)
	c := a.Clone()
	ok(t, "Link", header.Link(c, 1, 9))
	ok(t, "Clear", header.Clear(c, 1))
	tells(t, a, 1, h)
}
