package space_test

import (
	"bytes"
	"math"
	"runtime"
	"slices"
	"testing"

	"steading/api"
	"steading/space"
)

const (
	top  = ^uint64(0)
	page = uint64(api.Page)
	most = uint64(api.MaxBytes)
)

// ground is bytes that are told apart by their places, none of them 0.
func ground(size uint64) []byte {
	b := make([]byte, size)
	for i := range b {
		b[i] = byte(1 + (i+i/251)%255)
	}
	return b
}

// made is a space of pages all of whose bytes are told apart, and these bytes.
func made(t *testing.T, pages int) (*space.Space, []byte) {
	t.Helper()
	s, b := space.New(pages), ground(uint64(pages)*page)
	for at := uint64(0); at < uint64(len(b)); at += page {
		if err := s.Store(at, b[at:at+page]); err != api.OK {
			t.Fatalf("Store of a page at %d: %v", at, err)
		}
	}
	return s, b
}

// load is bytes that are there.
func load(t *testing.T, s *space.Space, at, n uint64) []byte {
	t.Helper()
	b, err := s.Load(at, n)
	if err != api.OK || uint64(len(b)) != n {
		t.Fatalf("Load of %d from %d on: %d bytes, %v", n, at, len(b), err)
	}
	return b
}

// whole is all bytes of a space, in pieces that may be loaded.
func whole(t *testing.T, s *space.Space) []byte {
	t.Helper()
	var all []byte
	for at := uint64(0); at < s.Size(); at += page {
		all = append(all, load(t, s, at, page)...)
	}
	return all
}

// ok fails, unless there was no error.
func ok(t *testing.T, what string, err api.Errno) {
	t.Helper()
	if err != api.OK {
		t.Fatalf("%s: %v", what, err)
	}
}

// touched counts pages one byte at a time.
func touched(at, n uint64) int {
	pages := map[uint64]bool{at / page: true}
	for i := range n {
		pages[(at+i)/page] = true
	}
	return len(pages)
}

// P3.1

func TestNewHasSoManyPages(t *testing.T) {
	for _, x := range []struct{ asked, want int }{
		{math.MinInt, 1}, {-api.MaxPages, 1}, {-1, 1}, {0, 1}, {1, 1}, {2, 2}, {3, 3}, {1000, 1000},
		{1<<20 - 1, 1<<20 - 1}, {1 << 20, 1 << 20}, {1<<20 + 1, 1 << 20}, {1 << 21, 1 << 20}, {1<<32 + 1, 1 << 20}, {math.MaxInt, 1 << 20},
	} {
		s := space.New(x.asked)
		if s.Pages() != x.want || s.Size() != uint64(x.want)*4096 || s.Ticks() != 0 {
			t.Errorf("New(%d): %d pages, %d bytes, %d ticks, want %d pages", x.asked, s.Pages(), s.Size(), s.Ticks(), x.want)
		}
	}
}

func TestNewIsZero(t *testing.T) {
	for _, pages := range []int{1, 2, 5} {
		s := space.New(pages)
		if !bytes.Equal(whole(t, s), make([]byte, pages*api.Page)) {
			t.Errorf("of %d pages some byte isn't 0", pages)
		}
	}
	s := space.New(api.MaxPages)
	for _, at := range []uint64{0, 1<<31 - 5, s.Size() - most} {
		if !bytes.Equal(load(t, s, at, most), make([]byte, most)) {
			t.Errorf("of the greatest space some byte from %d on isn't 0", at)
		}
	}
}

func TestPagesAndSizeStay(t *testing.T) {
	s := space.New(3)
	ok(t, "Store", s.Store(page, ground(2*page)))
	ok(t, "Zero", s.Zero(0, 3*page))
	ok(t, "Copy", s.Copy(0, page, page))
	s.Store(3*page, []byte{1})
	if s.Pages() != 3 || s.Size() != 3*page {
		t.Errorf("%d pages, %d bytes", s.Pages(), s.Size())
	}
}

func TestMemoryIsLaidForWhatIsStored(t *testing.T) {
	var before, behind runtime.MemStats
	runtime.ReadMemStats(&before)
	s := space.New(api.MaxPages)
	ok(t, "Store", s.Store(s.Size()-1, []byte{7}))
	ok(t, "Store", s.Store(0, []byte{7}))
	ok(t, "Zero", s.Zero(0, s.Size()))
	load(t, s, 1<<30, most)
	c := s.Clone()
	runtime.ReadMemStats(&behind)
	if got := behind.TotalAlloc - before.TotalAlloc; got > 1<<26 {
		t.Errorf("for two pages %d bytes are laid", got)
	}
	runtime.KeepAlive(c)
}

// P3.2

func TestExamples(t *testing.T) {
	s := space.New(1)
	if err := s.Store(4094, []byte("ab")); err != api.OK {
		t.Error(err)
	}
	if err := s.Store(4095, []byte("ab")); err != api.ErrRange {
		t.Error(err)
	}
	if b := load(t, s, 4093, 3); string(b) != "\x00ab" {
		t.Errorf("%q", b)
	}
	two := space.New(2)
	load(t, two, 4095, 2)
	if two.Ticks() != 2 {
		t.Error(two.Ticks())
	}
}

// span is some bytes from a place on.
type span struct{ at, n uint64 }

// spans are bytes within four pages: none, up to a page's end, across it, over several pages, and up to the space's last byte.
func spans() []span {
	return []span{
		{0, 0}, {5, 0}, {4095, 0}, {4096, 0}, {4097, 0}, {16383, 0}, {16384, 0},
		{0, 1}, {7, 100}, {4095, 1}, {4096, 1}, {4000, 96}, {4000, 97}, {4095, 2}, {4094, 3},
		{0, 4095}, {0, 4096}, {0, 4097}, {1, 4095}, {1, 4096}, {4096, 4096}, {4095, 4098}, {4097, 4094},
		{0, 8192}, {100, 8092}, {100, 8093}, {3000, 9000}, {4095, 8194}, {8191, 4098}, {1, 16382},
		{0, 16384}, {1, 16383}, {4096, 12288}, {8192, 8192}, {12287, 4097}, {12288, 4096}, {16383, 1}, {16380, 4},
	}
}

func TestLoadIsTheBytes(t *testing.T) {
	s, b := made(t, 4)
	for _, x := range spans() {
		if got := load(t, s, x.at, x.n); !bytes.Equal(got, b[x.at:x.at+x.n]) {
			t.Errorf("Load of %d from %d on isn't what is there", x.n, x.at)
		}
	}
	if !bytes.Equal(whole(t, s), b) {
		t.Error("Load changes bytes")
	}
}

func TestLoadOfPagesThatArentLaid(t *testing.T) {
	s := space.New(4)
	ok(t, "Store", s.Store(page+10, []byte{1, 2, 3}))
	b := make([]byte, 4*page)
	copy(b[page+10:], []byte{1, 2, 3})
	for _, x := range spans() {
		if got := load(t, s, x.at, x.n); !bytes.Equal(got, b[x.at:x.at+x.n]) {
			t.Errorf("Load of %d from %d on isn't what is there", x.n, x.at)
		}
	}
}

func TestStoreIsTheBytes(t *testing.T) {
	for _, laid := range []bool{false, true} {
		for _, x := range spans() {
			s, b := space.New(4), make([]byte, 4*page)
			if laid {
				s, b = made(t, 4)
			}
			stored := bytes.Repeat([]byte{200, 0, 201}, int(x.n)/3+1)[:x.n]
			kept := slices.Clone(stored)
			ok(t, "Store", s.Store(x.at, stored))
			copy(b[x.at:], kept)
			if !bytes.Equal(whole(t, s), b) {
				t.Errorf("Store of %d from %d on (laid ahead: %v) isn't what it should be", x.n, x.at, laid)
			}
			if !bytes.Equal(stored, kept) {
				t.Errorf("Store of %d from %d on changes what is handed in", x.n, x.at)
			}
		}
	}
}

func TestZeroMakesBytesZero(t *testing.T) {
	for _, x := range spans() {
		s, b := made(t, 4)
		ok(t, "Zero", s.Zero(x.at, x.n))
		clear(b[x.at : x.at+x.n])
		if !bytes.Equal(whole(t, s), b) {
			t.Errorf("Zero of %d from %d on isn't what it should be", x.n, x.at)
		}
	}
}

func TestZeroOfPagesThatArentLaid(t *testing.T) {
	for _, x := range spans() {
		s, b := space.New(4), make([]byte, 4*page)
		ok(t, "Store", s.Store(2*page-1, []byte{1, 2}))
		copy(b[2*page-1:], []byte{1, 2})
		ok(t, "Zero", s.Zero(x.at, x.n))
		clear(b[x.at : x.at+x.n])
		if !bytes.Equal(whole(t, s), b) {
			t.Errorf("Zero of %d from %d on isn't what it should be", x.n, x.at)
		}
	}
}

func TestStoreBehindZero(t *testing.T) {
	s, b := made(t, 2)
	ok(t, "Zero", s.Zero(0, 2*page))
	ok(t, "Store", s.Store(page-1, []byte{5, 6}))
	clear(b)
	copy(b[page-1:], []byte{5, 6})
	if !bytes.Equal(whole(t, s), b) {
		t.Error("bytes that were made 0 come back")
	}
}

func TestCopyOfAnyPlaces(t *testing.T) {
	// Distances below, at and above a page, so that both overlap or not, in either order; 0 is onto itself.
	places := []uint64{0, 1, 2, 100, 4090, 4095, 4096, 4097, 5000, 8191, 8192, 9000, 12000, 12288, 16384}
	for _, n := range []uint64{0, 1, 2, 3, 10, 100, 4095, 4096, 4097, 7000, 8192, 12288} {
		for _, to := range places {
			for _, from := range places {
				if to+n > 4*page || from+n > 4*page {
					continue
				}
				s, b := made(t, 4)
				ok(t, "Copy", s.Copy(to, from, n))
				copy(b[to:to+n], slices.Clone(b[from:from+n]))
				if !bytes.Equal(whole(t, s), b) {
					t.Fatalf("Copy to %d from %d of %d isn't what it should be", to, from, n)
				}
			}
		}
	}
}

func TestCopyBetweenPagesThatArentLaid(t *testing.T) {
	s := space.New(4)
	ok(t, "Store", s.Store(page-2, []byte{1, 2, 3, 4}))
	ok(t, "Copy onto none", s.Copy(3*page-1, page-2, 4))
	ok(t, "Copy of none", s.Copy(page-1, 4*page-2, 2))
	b := make([]byte, 4*page)
	copy(b[page-2:], []byte{1, 0, 0, 4})
	copy(b[3*page-1:], []byte{1, 2, 3, 4})
	if !bytes.Equal(whole(t, s), b) {
		t.Error("what is copied isn't what it should be")
	}
}

// beyond are spans that don't lie within so many bytes: one too many, and places and counts whose sums go round.
func beyond(size uint64) []span {
	return []span{
		{size, 1}, {size - 1, 2}, {0, size + 1}, {1, size}, {size + 1, 0}, {size + 1, 1}, {size * 2, 0}, {size - 4095, 4096},
		{top, 0}, {top, 1}, {top, 2}, {top - 1, 1}, {top - 1, 3}, {top - 4095, 4096}, {top - 4095, 4097},
		{0, top}, {1, top}, {2, top}, {4096, top - 4095}, {top, top}, {1 << 63, 1 << 63}, {1<<63 + 8, 1 << 63}, {1 << 63, 0},
	}
}

func TestLoadAndZeroBeyondTheEnd(t *testing.T) {
	for _, pages := range []int{1, 3, 300, api.MaxPages} {
		s := space.New(pages)
		for _, x := range beyond(s.Size()) {
			if b, err := s.Load(x.at, x.n); err != api.ErrRange || len(b) != 0 {
				t.Errorf("%d pages: Load of %d from %d on: %d bytes, %v", pages, x.n, x.at, len(b), err)
			}
			if err := s.Zero(x.at, x.n); err != api.ErrRange {
				t.Errorf("%d pages: Zero of %d from %d on: %v", pages, x.n, x.at, err)
			}
		}
		if s.Ticks() != 0 {
			t.Errorf("%d pages: %d ticks", pages, s.Ticks())
		}
	}
}

func TestStoreBeyondTheEnd(t *testing.T) {
	for _, pages := range []int{1, 3, api.MaxPages} {
		s := space.New(pages)
		for _, x := range beyond(s.Size()) {
			if x.n > 2*most {
				continue
			}
			if err := s.Store(x.at, make([]byte, x.n)); err != api.ErrRange {
				t.Errorf("%d pages: Store of %d from %d on: %v", pages, x.n, x.at, err)
			}
		}
		if s.Ticks() != 0 {
			t.Errorf("%d pages: %d ticks", pages, s.Ticks())
		}
	}
}

func TestCopyBeyondTheEnd(t *testing.T) {
	for _, pages := range []int{1, 3, 300, api.MaxPages} {
		s := space.New(pages)
		for _, x := range beyond(s.Size()) {
			for _, places := range [][2]uint64{{x.at, 0}, {0, x.at}, {x.at, x.at}} {
				if err := s.Copy(places[0], places[1], x.n); err != api.ErrRange {
					t.Errorf("%d pages: Copy to %d from %d of %d: %v", pages, places[0], places[1], x.n, err)
				}
			}
		}
		if s.Ticks() != 0 {
			t.Errorf("%d pages: %d ticks", pages, s.Ticks())
		}
	}
}

func TestLastByteOfTheGreatestSpace(t *testing.T) {
	s := space.New(api.MaxPages)
	last := s.Size() - 1
	ok(t, "Store", s.Store(last, []byte{9}))
	ok(t, "Store of none at the end", s.Store(last+1, nil))
	ok(t, "Zero of none at the end", s.Zero(last+1, 0))
	ok(t, "Copy of none at the end", s.Copy(last+1, last+1, 0))
	if b := load(t, s, last+1, 0); len(b) != 0 {
		t.Error(b)
	}
	if b := load(t, s, last-1, 2); string(b) != "\x00\x09" {
		t.Error(b)
	}
	ok(t, "Copy", s.Copy(0, last, 1))
	ok(t, "Zero", s.Zero(last, 1))
	if b := load(t, s, 0, 2); string(b) != "\x09\x00" {
		t.Error(b)
	}
	if b := load(t, s, last, 1); string(b) != "\x00" {
		t.Error(b)
	}
}

func TestMaxBytes(t *testing.T) {
	s := space.New(600)
	b := ground(most + 1)
	ok(t, "Store of MaxBytes", s.Store(5, b[:most]))
	if got := load(t, s, 5, most); !bytes.Equal(got, b[:most]) {
		t.Error("MaxBytes aren't loaded as they were stored")
	}
	ok(t, "Copy of MaxBytes", s.Copy(9, 5, most))
	if got := load(t, s, 9, most); !bytes.Equal(got, b[:most]) {
		t.Error("MaxBytes aren't copied as they were stored")
	}
	ticks := s.Ticks()
	if got, err := s.Load(0, most+1); err != api.ErrArg || len(got) != 0 {
		t.Errorf("Load of one more: %d bytes, %v", len(got), err)
	}
	if err := s.Store(0, b); err != api.ErrArg {
		t.Errorf("Store of one more: %v", err)
	}
	if err := s.Copy(0, 8, most+1); err != api.ErrArg {
		t.Errorf("Copy of one more: %v", err)
	}
	if s.Ticks() != ticks || !bytes.Equal(load(t, s, 9, most), b[:most]) || !bytes.Equal(load(t, s, 0, 9), append(make([]byte, 5), b[:4]...)) {
		t.Error("with an error something is changed")
	}
	ok(t, "Zero of more", s.Zero(1, s.Size()-2))
	if got := load(t, s, 0, most); !bytes.Equal(got, make([]byte, most)) {
		t.Error("more than MaxBytes aren't made 0")
	}
}

func TestMaxBytesUpToTheEnd(t *testing.T) {
	s := space.New(256)
	if s.Size() != most {
		t.Fatal(s.Size())
	}
	ok(t, "Store", s.Store(0, ground(most)))
	if !bytes.Equal(load(t, s, 0, most), ground(most)) {
		t.Error("a space of MaxBytes isn't loaded whole")
	}
	ok(t, "Copy", s.Copy(0, 0, most))
}

func TestErrRangeGoesAheadOfErrArg(t *testing.T) {
	s := space.New(300)
	n := most + 1
	b := make([]byte, n)
	edge := s.Size() - n
	for _, x := range []struct {
		at   uint64
		want api.Errno
	}{{0, api.ErrArg}, {edge, api.ErrArg}, {edge + 1, api.ErrRange}, {s.Size(), api.ErrRange}, {top, api.ErrRange}, {top - most, api.ErrRange}} {
		_, loaded := s.Load(x.at, n)
		for name, err := range map[string]api.Errno{
			"Load": loaded, "Store": s.Store(x.at, b), "Copy to": s.Copy(x.at, 0, n), "Copy from": s.Copy(0, x.at, n), "Copy both": s.Copy(x.at, x.at, n),
		} {
			if err != x.want {
				t.Errorf("%s, %d bytes at %d: %v, want %v", name, n, x.at, err, x.want)
			}
		}
	}
	if _, err := s.Load(1, top-1); err != api.ErrRange {
		t.Error(err)
	}
	if s.Ticks() != 0 {
		t.Error(s.Ticks())
	}
}

func TestErrorsChangeNothing(t *testing.T) {
	s, b := made(t, 3)
	ticks := s.Ticks()
	s.Load(3*page-1, 2)
	s.Store(3*page-1, []byte{0, 0})
	s.Store(page, make([]byte, 2*page+1))
	s.Store(top, []byte{0, 0})
	s.Zero(page, 2*page+1)
	s.Zero(top, 2)
	s.Zero(1, top)
	s.Copy(0, 3*page-1, 2)
	s.Copy(3*page-1, 0, 2)
	s.Copy(page, 0, 2*page+1)
	s.Copy(0, top, 2)
	s.Copy(top, 0, 2)
	if s.Ticks() != ticks {
		t.Errorf("errors tick: %d, want %d", s.Ticks(), ticks)
	}
	if !bytes.Equal(whole(t, s), b) {
		t.Error("errors change bytes")
	}
}

func TestListsAreApart(t *testing.T) {
	s := space.New(2)
	b := []byte{1, 2, 3, 4}
	ok(t, "Store", s.Store(page-2, b))
	clear(b)
	if got := load(t, s, page-2, 4); string(got) != "\x01\x02\x03\x04" {
		t.Errorf("what is handed in is kept: %v", got)
	}
	for _, x := range []span{{page - 2, 4}, {page - 2, 2}, {page, 2}, {0, page}, {page, page}} {
		one, other := load(t, s, x.at, x.n), load(t, s, x.at, x.n)
		kept := slices.Clone(other)
		for i := range one {
			one[i] = 77
		}
		_ = append(one, 78)
		if !bytes.Equal(other, kept) || !bytes.Equal(load(t, s, x.at, x.n), kept) || load(t, s, page+2, 1)[0] != 0 {
			t.Errorf("what is loaded, %d from %d on, isn't new memory", x.n, x.at)
		}
	}
}

func TestPagesShareNoMemory(t *testing.T) {
	s := space.New(2)
	b := ground(2 * page)
	ok(t, "Store", s.Store(0, b))
	ok(t, "Copy", s.Copy(page, 0, page))
	ok(t, "Store", s.Store(0, []byte{0, 0, 0}))
	clear(b[:3*page/2])
	if !bytes.Equal(load(t, s, page, page), ground(page)) {
		t.Error("pages share memory")
	}
}

func TestNilAndEmptyAreOne(t *testing.T) {
	s := space.New(1)
	for _, b := range [][]byte{nil, {}} {
		for _, at := range []uint64{0, 7, page} {
			ok(t, "Store of none", s.Store(at, b))
		}
		if err := s.Store(page+1, b); err != api.ErrRange {
			t.Error(err)
		}
	}
	if s.Ticks() != 6 || !bytes.Equal(whole(t, s), make([]byte, page)) {
		t.Error(s.Ticks())
	}
}

// P3.3

func TestTicksArePagesTouched(t *testing.T) {
	for _, x := range spans() {
		want := touched(x.at, x.n)
		s := space.New(4)
		load(t, s, x.at, x.n)
		if s.Ticks() != want {
			t.Errorf("Load of %d from %d on ticks %d, want %d", x.n, x.at, s.Ticks(), want)
		}
		s = space.New(4)
		ok(t, "Store", s.Store(x.at, make([]byte, x.n)))
		if s.Ticks() != want {
			t.Errorf("Store of %d from %d on ticks %d, want %d", x.n, x.at, s.Ticks(), want)
		}
		s = space.New(4)
		ok(t, "Zero", s.Zero(x.at, x.n))
		if s.Ticks() != want {
			t.Errorf("Zero of %d from %d on ticks %d, want %d", x.n, x.at, s.Ticks(), want)
		}
	}
}

func TestTicksOfKnown(t *testing.T) {
	for _, x := range []struct {
		at, n uint64
		want  int
	}{
		{0, 0, 1}, {page, 0, 1}, {4 * page, 0, 1}, {0, 1, 1}, {page - 1, 1, 1}, {page - 1, 2, 2}, {0, page, 1}, {0, page + 1, 2},
		{1, page, 2}, {page, page, 1}, {page - 1, page + 2, 3}, {1, 3 * page, 4}, {0, 4 * page, 4}, {4*page - 1, 1, 1},
	} {
		s := space.New(4)
		ok(t, "Zero", s.Zero(x.at, x.n))
		if s.Ticks() != x.want {
			t.Errorf("Zero of %d from %d on ticks %d, want %d", x.n, x.at, s.Ticks(), x.want)
		}
	}
}

func TestTicksOfCopyAreThoseOfBoth(t *testing.T) {
	for _, x := range []struct {
		to, from, n uint64
		want        int
	}{
		{0, 0, 0, 2}, {4 * page, 0, 0, 2}, {4 * page, 4 * page, 0, 2}, {0, 0, 5, 2}, {0, page, 1, 2}, {page - 1, 0, 2, 3}, {0, page - 1, 2, 3},
		{page - 1, page - 1, 2, 4}, {page, 0, page, 2}, {page + 1, 0, page, 3}, {0, page + 1, page, 3}, {1, 2, 3 * page, 8}, {page, 0, 3 * page, 6},
	} {
		s, _ := made(t, 4)
		ticks := s.Ticks()
		ok(t, "Copy", s.Copy(x.to, x.from, x.n))
		if got := s.Ticks() - ticks; got != x.want || got != touched(x.to, x.n)+touched(x.from, x.n) {
			t.Errorf("Copy to %d from %d of %d ticks %d, want %d", x.to, x.from, x.n, got, x.want)
		}
	}
}

func TestTicksAddUp(t *testing.T) {
	s := space.New(4)
	want := 0
	for range 3 {
		for _, x := range spans() {
			load(t, s, x.at, x.n)
			ok(t, "Store", s.Store(x.at, make([]byte, x.n)))
			ok(t, "Zero", s.Zero(x.at, x.n))
			want += 3 * touched(x.at, x.n)
		}
	}
	if s.Ticks() != want {
		t.Errorf("%d ticks, want %d", s.Ticks(), want)
	}
}

func TestTicksOfManyPages(t *testing.T) {
	s := space.New(api.MaxPages)
	ok(t, "Zero", s.Zero(0, s.Size()))
	ok(t, "Zero", s.Zero(1, s.Size()-1))
	ok(t, "Zero", s.Zero(page, s.Size()-2*page+1))
	if want := 3*api.MaxPages - 1; s.Ticks() != want {
		t.Errorf("%d ticks, want %d", s.Ticks(), want)
	}
}

func TestWhatDoesntTick(t *testing.T) {
	s, _ := made(t, 3)
	ticks := s.Ticks()
	if ticks != 3 {
		t.Fatal(ticks)
	}
	s.Pages()
	s.Size()
	s.Ticks()
	s.Clone()
	s.Load(3*page, 1)
	s.Store(3*page, []byte{1})
	s.Zero(3*page, 1)
	s.Copy(0, 3*page, 1)
	s.Copy(3*page, 0, 1)
	if s.Ticks() != ticks {
		t.Errorf("%d ticks, want %d", s.Ticks(), ticks)
	}
}

func TestCloneIsTheSame(t *testing.T) {
	for _, pages := range []int{1, 2, 7} {
		s, b := made(t, pages)
		c := s.Clone()
		if c == nil || c == s || c.Pages() != pages || c.Size() != s.Size() {
			t.Fatalf("Clone of %d pages isn't another space of so many", pages)
		}
		if c.Ticks() != 0 || s.Ticks() != pages {
			t.Errorf("Clone of %d pages: %d ticks, and %d of what it is of", pages, c.Ticks(), s.Ticks())
		}
		if !bytes.Equal(whole(t, c), b) || !bytes.Equal(whole(t, s), b) {
			t.Errorf("Clone of %d pages has other bytes", pages)
		}
	}
}

func TestCloneOfTheGreatestSpace(t *testing.T) {
	s := space.New(api.MaxPages)
	ok(t, "Store", s.Store(1<<32-2, []byte{3, 4}))
	c := s.Clone()
	if c.Pages() != api.MaxPages || !bytes.Equal(load(t, c, 1<<32-3, 3), []byte{0, 3, 4}) || !bytes.Equal(load(t, c, 0, page), make([]byte, page)) {
		t.Error("Clone of the greatest space has other bytes")
	}
}

func TestClonesAreApart(t *testing.T) {
	// Page 0 is laid in both, page 1 in neither: what is done lies across both.
	for name, do := range map[string]func(s *space.Space) api.Errno{
		"Store":          func(s *space.Space) api.Errno { return s.Store(page-1, []byte{91, 92}) },
		"Store unlaid":   func(s *space.Space) api.Errno { return s.Store(page+1, []byte{91, 92}) },
		"Zero":           func(s *space.Space) api.Errno { return s.Zero(3, page) },
		"Zero all":       func(s *space.Space) api.Errno { return s.Zero(0, 2*page) },
		"Copy":           func(s *space.Space) api.Errno { return s.Copy(page-3, 0, 6) },
		"Copy of unlaid": func(s *space.Space) api.Errno { return s.Copy(0, page, page) },
	} {
		s := space.New(2)
		ok(t, "Store", s.Store(0, ground(page)))
		c := s.Clone()
		ahead := append(ground(page), make([]byte, page)...)

		ok(t, name, do(s))
		if !bytes.Equal(whole(t, c), ahead) {
			t.Errorf("%s changes a clone", name)
		}
		behind := whole(t, s)
		if bytes.Equal(behind, ahead) {
			t.Errorf("%s changes nothing", name)
		}

		d := s.Clone()
		ok(t, name, d.Store(0, []byte{1, 1, 1, 1}))
		ok(t, name, d.Zero(5, 2*page-5))
		if !bytes.Equal(whole(t, s), behind) {
			t.Errorf("%s: what is done to a clone changes what it is of", name)
		}
	}
}

func TestTicksOfClonesAreApart(t *testing.T) {
	s, _ := made(t, 2)
	c := s.Clone()
	load(t, c, 0, 2*page)
	ok(t, "Zero", c.Zero(0, 1))
	d := c.Clone()
	load(t, s, 0, 1)
	if s.Ticks() != 3 || c.Ticks() != 3 || d.Ticks() != 0 {
		t.Error(s.Ticks(), c.Ticks(), d.Ticks())
	}
}

func TestNil(t *testing.T) {
	var s *space.Space
	if s.Pages() != 0 || s.Size() != 0 || s.Ticks() != 0 || s.Clone() != nil {
		t.Error("nil is something")
	}
	for _, x := range []span{{0, 0}, {0, 1}, {1, 0}, {0, most + 1}, {top, 0}, {top, top}} {
		if b, err := s.Load(x.at, x.n); err != api.ErrRange || len(b) != 0 {
			t.Errorf("Load of %d from %d on: %v, %v", x.n, x.at, b, err)
		}
		if err := s.Zero(x.at, x.n); err != api.ErrRange {
			t.Errorf("Zero of %d from %d on: %v", x.n, x.at, err)
		}
		if err := s.Copy(x.at, 0, x.n); err != api.ErrRange {
			t.Errorf("Copy of %d to %d: %v", x.n, x.at, err)
		}
		if err := s.Copy(0, x.at, x.n); err != api.ErrRange {
			t.Errorf("Copy of %d from %d on: %v", x.n, x.at, err)
		}
	}
	for _, b := range [][]byte{nil, {}, {1}, make([]byte, most+1)} {
		if err := s.Store(0, b); err != api.ErrRange {
			t.Errorf("Store of %d: %v", len(b), err)
		}
	}
	if s.Ticks() != 0 {
		t.Error("nil ticks")
	}
}

// P3.4

// apart are numbers of pages that might be taken for each other by some of their bits.
func apart() []uint64 {
	l := []uint64{0, 3, 1<<20 - 1, 1<<20 - 2, 0xaaaaa, 0x55555, 1<<10 + 1<<5, 1<<15 + 1<<10}
	for k := range 20 {
		l = append(l, 1<<k, 1<<k+1<<(k/2), 1<<20-1-1<<k)
	}
	slices.Sort(l)
	return slices.Compact(l)
}

func TestPagesArentTakenForEachOther(t *testing.T) {
	s := space.New(api.MaxPages)
	for i, p := range apart() {
		ok(t, "Store", s.Store(p*page+17, []byte{byte(i + 1), byte(i + 101)}))
	}
	for _, c := range []*space.Space{s, s.Clone()} {
		for i, p := range apart() {
			want := make([]byte, page)
			want[17], want[18] = byte(i+1), byte(i+101)
			if !bytes.Equal(load(t, c, p*page, page), want) {
				t.Errorf("page %d isn't what was stored there", p)
			}
		}
	}
	for i, p := range apart() {
		ok(t, "Zero", s.Zero(p*page, page))
		for _, q := range apart()[i+1:] {
			if load(t, s, q*page+17, 1)[0] == 0 {
				t.Fatalf("Zero of page %d makes page %d 0", p, q)
			}
		}
	}
}

// chance is numbers that look like chance, the same ones each time.
type chance uint64

func (c *chance) below(n uint64) uint64 {
	*c = *c*6364136223846793005 + 1442695040888963407
	return uint64(*c>>33) % n
}

// near is a place that is often close to a page's edge, and now and then beyond the end.
func (c *chance) near(size uint64) uint64 {
	if c.below(3) == 0 {
		return c.below(size + 8)
	}
	at := c.below(size/page+1)*page + c.below(9)
	return at - min(at, c.below(9))
}

// count is how many bytes: few, a page or so, or many.
func (c *chance) count() uint64 {
	switch c.below(3) {
	case 0:
		return c.below(20)
	case 1:
		return page - 4 + c.below(9)
	}
	return c.below(4 * page)
}

// plain is a space whose bytes all stand in one list.
type plain struct {
	b     []byte
	ticks int
}

func (p *plain) in(at, n uint64) bool { return at+n <= uint64(len(p.b)) }

// one does one operation to both, and tells whether they answer the same.
func (c *chance) one(s *space.Space, p *plain) bool {
	size := uint64(len(p.b))
	at, other, n := c.near(size), c.near(size), c.count()
	want := api.OK
	if !p.in(at, n) {
		want = api.ErrRange
	}
	switch c.below(4) {
	case 0:
		b, err := s.Load(at, n)
		if want != api.OK {
			return err == want && len(b) == 0
		}
		p.ticks += touched(at, n)
		return err == want && bytes.Equal(b, p.b[at:at+n])
	case 1:
		b := make([]byte, n)
		for i := range b {
			b[i] = byte(c.below(256))
		}
		err := s.Store(at, b)
		if want == api.OK {
			copy(p.b[at:], b)
			p.ticks += touched(at, n)
		}
		return err == want
	case 2:
		err := s.Zero(at, n)
		if want == api.OK {
			clear(p.b[at : at+n])
			p.ticks += touched(at, n)
		}
		return err == want
	}
	if !p.in(other, n) {
		want = api.ErrRange
	}
	err := s.Copy(at, other, n)
	if want == api.OK {
		copy(p.b[at:], slices.Clone(p.b[other:other+n]))
		p.ticks += touched(at, n) + touched(other, n)
	}
	return err == want
}

func TestSpaceIsAListOfBytes(t *testing.T) {
	for seed, pages := range []int{1, 2, 3, 5, 8} {
		c := chance(seed)
		s, p := space.New(pages), &plain{b: make([]byte, pages*api.Page)}
		for i := range 1500 {
			if !c.one(s, p) {
				t.Fatalf("%d pages, operation %d: another answer", pages, i)
			}
			if s.Ticks() != p.ticks {
				t.Fatalf("%d pages, operation %d: %d ticks, want %d", pages, i, s.Ticks(), p.ticks)
			}
			if !bytes.Equal(whole(t, s.Clone()), p.b) {
				t.Fatalf("%d pages, operation %d: other bytes", pages, i)
			}
			if i%100 == 99 {
				s, p.ticks = s.Clone(), 0
			}
		}
		if !bytes.Equal(whole(t, s), p.b) {
			t.Fatalf("%d pages: other bytes", pages)
		}
	}
}
