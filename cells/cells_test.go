package cells_test

import (
	"bytes"
	"math"
	"math/big"
	"slices"
	"testing"

	"steading/api"
	"steading/cells"
	"steading/space"
)

const (
	top  = ^uint64(0)
	page = uint64(api.Page)
)

// widths are all there are.
func widths() []int { return []int{1, 2, 4, 8} }

// noWidths are some of those that are none, the neighbours of all widths and the greatest ones among them.
func noWidths() []int {
	return []int{0, 3, 5, 6, 7, 9, 10, 12, 16, 32, 64, 4096, -1, -2, -4, -8, math.MaxInt, math.MinInt, math.MinInt + 1, 1 << 32, 1<<32 + 1, 1<<32 + 8, 1<<62 + 4}
}

// numbers are those around the power, and around half of the power, of each width, and some between.
func numbers() []uint64 {
	l := []uint64{0, 1, 2, 100, 258, 0x0123456789abcdef, 0xfedcba9876543210, 0x80808080_80808080, top - 1, top}
	for _, k := range []int{7, 8, 15, 16, 31, 32, 63} {
		p := uint64(1) << k
		l = append(l, p-2, p-1, p, p+1, p+p/2)
	}
	return l
}

// power is 2^(8 times width), also where it is too great for a number.
func power(width int) *big.Int { return new(big.Int).Lsh(big.NewInt(1), uint(8*width)) }

// sum is that of two numbers, as bytes of a width have it.
func sum(a, b uint64, width int) uint64 {
	l := new(big.Int).Add(new(big.Int).SetUint64(a), new(big.Int).SetUint64(b))
	return l.Mod(l, power(width)).Uint64()
}

// bytesOf is a number's bytes by division, the least one first.
func bytesOf(n uint64, width int) []byte {
	var l []byte
	for range width {
		l = append(l, byte(n%256))
		n /= 256
	}
	return l
}

// numberOf is the number that bytes are, by products.
func numberOf(b []byte) uint64 {
	var n uint64
	for _, x := range slices.Backward(b) {
		n = n*256 + uint64(x)
	}
	return n
}

// made is a space of pages all of whose bytes are told apart, none of them 0, and these bytes.
func made(t *testing.T, pages int) (*space.Space, []byte) {
	t.Helper()
	s, b := space.New(pages), make([]byte, pages*api.Page)
	for i := range b {
		b[i] = byte(1 + (i+i/251)%255)
	}
	for i := range pages {
		from := uint64(i) * page
		if err := s.Store(from, b[from:from+page]); err != api.OK {
			t.Fatalf("Store of a page at %d: %v", from, err)
		}
	}
	return s, b
}

// whole is all bytes of a space; it doesn't tick there, since they are loaded from a clone.
func whole(t *testing.T, s *space.Space) []byte {
	t.Helper()
	c := s.Clone()
	var all []byte
	for i := range c.Pages() {
		b, err := c.Load(uint64(i)*page, page)
		if err != api.OK {
			t.Fatalf("Load of page %d: %v", i, err)
		}
		all = append(all, b...)
	}
	return all
}

// same fails, unless a space has just these bytes.
func same(t *testing.T, s *space.Space, want []byte, what string, of ...any) {
	t.Helper()
	if !bytes.Equal(whole(t, s), want) {
		t.Errorf("the bytes aren't what they should be behind "+what, of...)
	}
}

// ok fails, unless there was no error.
func ok(t *testing.T, what string, err api.Errno) {
	t.Helper()
	if err != api.OK {
		t.Fatalf("%s: %v", what, err)
	}
}

// touched counts pages one byte at a time.
func touched(at, n uint64) int {
	pages := map[uint64]bool{at / page: true}
	for i := range n {
		pages[(at+i)/page] = true
	}
	return len(pages)
}

// places are some within two pages: the first numbers of the space and of the second page, the last ones of both, and some between.
func places(width int) []uint64 {
	w := uint64(width)
	return []uint64{0, w, 2 * w, 100 * w, page/2 - w, page - 2*w, page - w, page, page + w, page + 24, 2*page - 2*w, 2*page - w}
}

// P4.1

func TestExamples(t *testing.T) {
	s := space.New(1)
	ok(t, "Put", cells.Put(s, 4, 2, 258))
	if was, err := cells.Add(s, 4, 2, 65535); was != 258 || err != api.OK {
		t.Error(was, err)
	}
	if n, err := cells.Get(s, 4, 2); n != 257 || err != api.OK {
		t.Error(n, err)
	}
	if err := cells.Put(s, 2, 4, 0); err != api.ErrArg {
		t.Error(err)
	}
}

func TestGetOfKnown(t *testing.T) {
	s := space.New(1)
	ok(t, "Store", s.Store(8, []byte{1, 2, 3, 4, 5, 6, 7, 0x88}))
	for _, x := range []struct {
		at    uint64
		width int
		want  uint64
	}{
		{0, 8, 0}, {7, 1, 0}, {8, 1, 1}, {15, 1, 0x88}, {8, 2, 0x0201}, {10, 2, 0x0403}, {14, 2, 0x8807},
		{8, 4, 0x04030201}, {12, 4, 0x88070605}, {8, 8, 0x8807060504030201}, {16, 8, 0}, {4088, 8, 0}, {4095, 1, 0},
	} {
		if n, err := cells.Get(s, x.at, x.width); n != x.want || err != api.OK {
			t.Errorf("Get at %d, width %d: %#x, %v, want %#x", x.at, x.width, n, err, x.want)
		}
	}
}

func TestGetIsTheNumberOfTheBytes(t *testing.T) {
	s, b := made(t, 2)
	for _, width := range widths() {
		for at := uint64(0); at < 2*page; at += uint64(width) {
			want := numberOf(b[at : at+uint64(width)])
			if n, err := cells.Get(s, at, width); n != want || err != api.OK {
				t.Fatalf("Get at %d, width %d: %#x, %v, want %#x", at, width, n, err, want)
			}
		}
	}
	same(t, s, b, "Get")
}

func TestPutLaysTheNumbersBytes(t *testing.T) {
	for _, laid := range []bool{false, true} {
		for _, width := range widths() {
			s, b := space.New(2), make([]byte, 2*page)
			if laid {
				s, b = made(t, 2)
			}
			for _, at := range places(width) {
				for _, n := range numbers() {
					ok(t, "Put", cells.Put(s, at, width, n))
					copy(b[at:], bytesOf(n, width))
					want := sum(n, 0, width)
					if got, err := cells.Get(s, at, width); got != want || err != api.OK {
						t.Errorf("Put of %#x at %d, width %d: got %#x, %v", n, at, width, got, err)
					}
				}
				same(t, s, b, "Put at %d, width %d (laid ahead: %v)", at, width, laid)
			}
		}
	}
}

func TestPutOfTooGreatANumberLeavesTheNextOne(t *testing.T) {
	for _, width := range []int{1, 2, 4} {
		s, b := made(t, 1)
		at := uint64(8 + width)
		ok(t, "Put", cells.Put(s, at, width, top))
		for i := range width {
			b[at+uint64(i)] = 255
		}
		same(t, s, b, "Put of the greatest number at %d, width %d", at, width)
	}
}

func TestAddOfKnown(t *testing.T) {
	for _, x := range []struct {
		width        int
		was, n, want uint64
	}{
		{1, 8, 250, 2}, {1, 255, 1, 0}, {1, 254, 1, 255}, {1, 255, 255, 254}, {1, 7, 256, 7}, {1, 7, top, 6}, {1, 0, 0x1ff, 255},
		{2, 258, 65535, 257}, {2, 65535, 1, 0}, {2, 65534, 1, 65535}, {2, 255, 1, 256}, {2, 9, 1 << 16, 9}, {2, 9, top, 8},
		{4, 1<<32 - 1, 1, 0}, {4, 1<<32 - 1, 1<<32 - 1, 1<<32 - 2}, {4, 65535, 1, 65536}, {4, 3, 1 << 32, 3}, {4, 3, top, 2}, {4, 1 << 31, 1 << 31, 0},
		{8, top, 1, 0}, {8, top, top, top - 1}, {8, top - 1, 1, top}, {8, 1 << 63, 1 << 63, 0}, {8, 1<<32 - 1, 1, 1 << 32}, {8, 5, 0, 5}, {8, 0, top, top},
	} {
		s := space.New(1)
		ok(t, "Put", cells.Put(s, 16, x.width, x.was))
		if was, err := cells.Add(s, 16, x.width, x.n); was != x.was || err != api.OK {
			t.Errorf("Add of %#x to %#x, width %d: was %#x, %v", x.n, x.was, x.width, was, err)
		}
		if n, err := cells.Get(s, 16, x.width); n != x.want || err != api.OK {
			t.Errorf("Add of %#x to %#x, width %d: is %#x, %v, want %#x", x.n, x.was, x.width, n, err, x.want)
		}
	}
}

func TestAddLaysTheSumAndTellsWhatWas(t *testing.T) {
	for _, width := range widths() {
		s, b := made(t, 2)
		for _, at := range places(width) {
			cell := b[at : at+uint64(width)]
			for _, n := range numbers() {
				want := numberOf(cell)
				if was, err := cells.Add(s, at, width, n); was != want || err != api.OK {
					t.Errorf("Add of %#x at %d, width %d: was %#x, %v, want %#x", n, at, width, was, err, want)
				}
				copy(cell, bytesOf(sum(want, n, width), width))
			}
			same(t, s, b, "Add at %d, width %d", at, width)
		}
	}
}

func TestAddWhereNothingIsLaid(t *testing.T) {
	for _, width := range widths() {
		s, b := space.New(2), make([]byte, 2*page)
		at := 2*page - uint64(width)
		if was, err := cells.Add(s, at, width, top); was != 0 || err != api.OK {
			t.Errorf("width %d: was %#x, %v", width, was, err)
		}
		copy(b[at:], bytesOf(top, width))
		same(t, s, b, "Add, width %d", width)
	}
}

func TestTheGreatestSpacesLastNumber(t *testing.T) {
	for _, width := range widths() {
		s := space.New(api.MaxPages)
		at := s.Size() - uint64(width)
		ok(t, "Put", cells.Put(s, at, width, 200))
		if was, err := cells.Add(s, at, width, 7); was != 200 || err != api.OK {
			t.Errorf("width %d: Add: %d, %v", width, was, err)
		}
		if n, err := cells.Get(s, at, width); n != 207 || err != api.OK {
			t.Errorf("width %d: Get: %d, %v", width, n, err)
		}
		ok(t, "Fill", cells.Fill(s, at, width, 9, 1))
		if n, err := cells.Get(s, at, width); n != 9 || err != api.OK {
			t.Errorf("width %d: Get behind Fill: %d, %v", width, n, err)
		}
	}
}

// refused fails, unless all calls of one number at a place tell an error, and nothing beside it.
func refused(t *testing.T, s *space.Space, at uint64, width int, want api.Errno) {
	t.Helper()
	if n, err := cells.Get(s, at, width); n != 0 || err != want {
		t.Errorf("Get at %d, width %d: %d, %v, want %v", at, width, n, err, want)
	}
	if err := cells.Put(s, at, width, 0x1234567812345678); err != want {
		t.Errorf("Put at %d, width %d: %v, want %v", at, width, err, want)
	}
	if n, err := cells.Add(s, at, width, 3); n != 0 || err != want {
		t.Errorf("Add at %d, width %d: %d, %v, want %v", at, width, n, err, want)
	}
	if err := cells.Fill(s, at, width, 0x1234567812345678, 1); err != want {
		t.Errorf("Fill at %d, width %d, once: %v, want %v", at, width, err, want)
	}
}

func TestWidthsThatAreNone(t *testing.T) {
	s, b := made(t, 2)
	ticks := s.Ticks()
	for _, width := range noWidths() {
		// Also at multiples, beyond the end and near 2^64: the width goes ahead of what lies within.
		for _, at := range []uint64{0, 1, 24, page - 1, 2 * page, 2*page + 1, uint64(width), top, top - 7} {
			refused(t, s, at, width, api.ErrArg)
			for _, times := range []int{0, 2, -1, math.MaxInt, math.MinInt} {
				if err := cells.Fill(s, at, width, 7, times); err != api.ErrArg {
					t.Errorf("Fill at %d, width %d, %d times: %v", at, width, times, err)
				}
			}
		}
	}
	same(t, s, b, "widths that are none")
	if s.Ticks() != ticks {
		t.Errorf("%d ticks", s.Ticks()-ticks)
	}
}

func TestPlacesThatAreNoMultiples(t *testing.T) {
	s, b := made(t, 2)
	ticks := s.Ticks()
	for _, width := range []int{2, 4, 8} {
		w := uint64(width)
		for rest := uint64(1); rest < w; rest++ {
			// Within, across a page's end, across the space's, beyond it, and where the sum goes round: ErrArg is named first.
			for _, base := range []uint64{0, 64, page - w, page, 2*page - w, 2 * page, 1 << 40, 1 << 63, 0 - w} {
				refused(t, s, base+rest, width, api.ErrArg)
				for _, times := range []int{0, 2, -1, math.MaxInt} {
					if err := cells.Fill(s, base+rest, width, 7, times); err != api.ErrArg {
						t.Errorf("Fill at %d, width %d, %d times: %v", base+rest, width, times, err)
					}
				}
			}
		}
	}
	same(t, s, b, "places that are no multiples")
	if s.Ticks() != ticks {
		t.Errorf("%d ticks", s.Ticks()-ticks)
	}
}

func TestPlacesBeyondTheEnd(t *testing.T) {
	for _, pages := range []int{1, 2, 3} {
		s, b := made(t, pages)
		ticks, size := s.Ticks(), s.Size()
		for _, width := range widths() {
			w := uint64(width)
			for _, at := range []uint64{size, size + w, size + page, 2 * size, 1 << 32, 1 << 63, 1<<63 + page, 0 - w, 0 - 2*w, top - page + 1} {
				refused(t, s, at, width, api.ErrRange)
			}
		}
		same(t, s, b, "places beyond the end of %d pages", pages)
		if s.Ticks() != ticks {
			t.Errorf("%d pages: %d ticks", pages, s.Ticks()-ticks)
		}
	}
}

// P4.2

func TestFillOfKnown(t *testing.T) {
	for _, x := range []struct {
		at    uint64
		width int
		n     uint64
		times int
		want  []byte
	}{
		{0, 1, 7, 3, []byte{7, 7, 7, 0, 0, 0, 0, 0, 0, 0}},
		{3, 1, 263, 2, []byte{0, 0, 0, 7, 7, 0, 0, 0, 0, 0}},
		{2, 2, 258, 3, []byte{0, 0, 2, 1, 2, 1, 2, 1, 0, 0}},
		{4, 4, 0xff04030201, 1, []byte{0, 0, 0, 0, 1, 2, 3, 4, 0, 0}},
		{0, 4, 0x04030201, 2, []byte{1, 2, 3, 4, 1, 2, 3, 4, 0, 0}},
		{0, 8, 0x0807060504030201, 1, []byte{1, 2, 3, 4, 5, 6, 7, 8, 0, 0}},
		{0, 2, top, 0, []byte{0, 0, 0, 0, 0, 0, 0, 0, 0, 0}},
	} {
		s := space.New(1)
		ok(t, "Fill", cells.Fill(s, x.at, x.width, x.n, x.times))
		if got := whole(t, s)[:10]; !bytes.Equal(got, x.want) {
			t.Errorf("Fill at %d, width %d, of %#x, %d times: %v, want %v", x.at, x.width, x.n, x.times, got, x.want)
		}
	}
}

// spans are pieces of four pages, in places and ends: none, also at the end; one number; across a page's end; over several pages; up to the last byte.
func spans() [][2]uint64 {
	return [][2]uint64{
		{0, 0}, {8, 8}, {4096, 4096}, {4088, 4088}, {16376, 16376}, {16384, 16384},
		{0, 8}, {4088, 4096}, {4096, 4104}, {16376, 16384}, {4088, 4104}, {4000, 4200}, {0, 4096}, {0, 4104}, {8, 4096}, {8, 4104},
		{4096, 8192}, {4088, 8200}, {80, 12000}, {4088, 12296}, {8, 16376}, {0, 16384}, {4096, 16384}, {12280, 16384},
	}
}

func TestFillLaysTheNumberSoOften(t *testing.T) {
	for _, laid := range []bool{false, true} {
		for _, width := range widths() {
			for i, x := range spans() {
				s, b := space.New(4), make([]byte, 4*page)
				if laid {
					s, b = made(t, 4)
				}
				n := numbers()[i%len(numbers())] + 0x0102030405060708
				times := int(x[1]-x[0]) / width
				ok(t, "Fill", cells.Fill(s, x[0], width, n, times))
				for k := range times {
					copy(b[x[0]+uint64(k*width):], bytesOf(n, width))
				}
				same(t, s, b, "Fill at %d, width %d, of %#x, %d times (laid ahead: %v)", x[0], width, n, times, laid)
			}
		}
	}
}

func TestFillOfNoneAtTheEnd(t *testing.T) {
	s, b := made(t, 2)
	for _, width := range widths() {
		w := uint64(width)
		for _, at := range []uint64{0, page - w, page, 2*page - w, 2 * page} {
			ok(t, "Fill of none", cells.Fill(s, at, width, top, 0))
		}
		for _, at := range []uint64{2*page + w, 3 * page, 1 << 63, 0 - w} {
			if err := cells.Fill(s, at, width, top, 0); err != api.ErrRange {
				t.Errorf("Fill of none at %d, width %d: %v", at, width, err)
			}
		}
	}
	same(t, s, b, "Fill of none")
}

func TestFillOfAsManyAsMayBe(t *testing.T) {
	for _, width := range widths() {
		most := api.MaxBytes / width
		s, b := space.New(258), make([]byte, 258*page)
		at := page - uint64(width)
		ok(t, "Fill", cells.Fill(s, at, width, 0x1122334455667788, most))
		copy(b[at:], bytes.Repeat(bytesOf(0x1122334455667788, width), most))
		same(t, s, b, "Fill of MaxBytes, width %d", width)
		ticks := s.Ticks()
		if err := cells.Fill(s, at, width, 9, most+1); err != api.ErrArg {
			t.Errorf("one more of width %d: %v", width, err)
		}
		same(t, s, b, "Fill of one more, width %d", width)
		if s.Ticks() != ticks {
			t.Errorf("one more of width %d ticks", width)
		}
	}
}

func TestFillOfAWholeSpaceOfMaxBytes(t *testing.T) {
	for _, width := range widths() {
		s := space.New(256)
		ok(t, "Fill", cells.Fill(s, 0, width, top, api.MaxBytes/width))
		if !bytes.Equal(whole(t, s), bytes.Repeat([]byte{255}, api.MaxBytes)) {
			t.Errorf("width %d: some byte isn't filled", width)
		}
	}
}

func TestFillOfTimesThatMayNotBe(t *testing.T) {
	s, b := made(t, 2)
	ticks := s.Ticks()
	for _, width := range widths() {
		most := api.MaxBytes / width
		// Products by 2^61, 2^62 and the like go round, some of them to few bytes.
		wrong := []int{-1, -2, -most, math.MinInt, math.MinInt + 1, math.MinInt / width, most + 1, most + 2, 2 * most, math.MaxInt, 1 << 32}
		if width > 1 {
			wrong = append(wrong, math.MaxInt/width+1, 1<<62, 1<<62+1)
		}
		if width > 2 {
			wrong = append(wrong, 1<<61, 1<<61+1)
		}
		for _, times := range wrong {
			// Also beyond the end: ErrArg is named first.
			for _, at := range []uint64{0, page, 2*page - 8, 2 * page, 4 * page, top - 7} {
				if err := cells.Fill(s, at, width, 7, times); err != api.ErrArg {
					t.Errorf("Fill at %d, width %d, %d times: %v", at, width, times, err)
				}
			}
		}
	}
	same(t, s, b, "times that may not be")
	if s.Ticks() != ticks {
		t.Errorf("%d ticks", s.Ticks()-ticks)
	}
}

func TestFillBeyondTheEnd(t *testing.T) {
	s, b := made(t, 2)
	ticks := s.Ticks()
	for _, width := range widths() {
		w := uint64(width)
		all := 2 * api.Page / width
		for _, x := range []struct {
			at    uint64
			times int
		}{
			{2*page - w, 2}, {2 * page, 1}, {0, all + 1}, {w, all}, {page, all/2 + 1}, {page - w, all/2 + 2}, {0, api.MaxBytes / width},
			{2*page + w, 1}, {1 << 63, 3}, {0 - w, 1}, {0 - w, 2}, {top - 7, 16 / width}, {top - page + 1, all}, {top - page + 1, api.MaxBytes / width},
		} {
			if err := cells.Fill(s, x.at, width, 7, x.times); err != api.ErrRange {
				t.Errorf("Fill at %d, width %d, %d times: %v", x.at, width, x.times, err)
			}
		}
	}
	same(t, s, b, "Fill beyond the end")
	if s.Ticks() != ticks {
		t.Errorf("%d ticks", s.Ticks()-ticks)
	}
}

// P4.3

func TestTicksOfOneNumber(t *testing.T) {
	s, _ := made(t, 2)
	for _, width := range widths() {
		for _, at := range places(width) {
			for _, x := range []struct {
				what string
				call func() api.Errno
				want int
			}{
				{"Get", func() api.Errno { _, err := cells.Get(s, at, width); return err }, 1},
				{"Put", func() api.Errno { return cells.Put(s, at, width, 5) }, 1},
				{"Add", func() api.Errno { _, err := cells.Add(s, at, width, 5); return err }, 2},
				{"Add of 0", func() api.Errno { _, err := cells.Add(s, at, width, 0); return err }, 2},
			} {
				ticks := s.Ticks()
				ok(t, x.what, x.call())
				if got := s.Ticks() - ticks; got != x.want {
					t.Errorf("%s at %d, width %d, ticks %d times, want %d", x.what, at, width, got, x.want)
				}
			}
		}
	}
}

func TestTicksOfFill(t *testing.T) {
	for _, width := range widths() {
		s := space.New(4)
		for _, x := range spans() {
			ticks := s.Ticks()
			ok(t, "Fill", cells.Fill(s, x[0], width, 3, int(x[1]-x[0])/width))
			if got, want := s.Ticks()-ticks, touched(x[0], x[1]-x[0]); got != want {
				t.Errorf("Fill from %d to %d, width %d, ticks %d times, want %d", x[0], x[1], width, got, want)
			}
		}
		s = space.New(257)
		ok(t, "Fill", cells.Fill(s, 8, width, 3, api.MaxBytes/width))
		if s.Ticks() != 257 {
			t.Errorf("Fill of MaxBytes across 257 pages, width %d, ticks %d times", width, s.Ticks())
		}
	}
}

func TestOfNil(t *testing.T) {
	for _, width := range widths() {
		w := uint64(width)
		for _, at := range []uint64{0, w, page, 1 << 63, 0 - w} {
			refused(t, nil, at, width, api.ErrRange)
			for _, times := range []int{0, 1, 2, api.MaxBytes / width} {
				if err := cells.Fill(nil, at, width, 1, times); err != api.ErrRange {
					t.Errorf("Fill of nil at %d, width %d, %d times: %v", at, width, times, err)
				}
			}
			for _, times := range []int{-1, api.MaxBytes/width + 1, math.MaxInt, math.MinInt} {
				if err := cells.Fill(nil, at, width, 1, times); err != api.ErrArg {
					t.Errorf("Fill of nil at %d, width %d, %d times: %v", at, width, times, err)
				}
			}
			if width > 1 {
				refused(t, nil, at+1, width, api.ErrArg)
			}
		}
	}
	for _, width := range noWidths() {
		refused(t, nil, 0, width, api.ErrArg)
		refused(t, nil, top, width, api.ErrArg)
	}
}

// plain is a space as one list of bytes, and its ticks.
type plain struct {
	b     []byte
	ticks int
}

// may tells which error a fill so often has.
func (p *plain) may(at uint64, width, times int) api.Errno {
	if !slices.Contains(widths(), width) || at%uint64(width) != 0 || times < 0 {
		return api.ErrArg
	}
	n := new(big.Int).Mul(big.NewInt(int64(width)), big.NewInt(int64(times)))
	if n.Cmp(big.NewInt(api.MaxBytes)) > 0 {
		return api.ErrArg
	}
	if n.Add(n, new(big.Int).SetUint64(at)).Cmp(big.NewInt(int64(len(p.b)))) > 0 {
		return api.ErrRange
	}
	return api.OK
}

func (p *plain) get(at uint64, width int) (uint64, api.Errno) {
	if err := p.may(at, width, 1); err != api.OK {
		return 0, err
	}
	p.ticks++
	return numberOf(p.b[at : at+uint64(width)]), api.OK
}

func (p *plain) fill(at uint64, width int, n uint64, times int) api.Errno {
	if err := p.may(at, width, times); err != api.OK {
		return err
	}
	for i := range times {
		copy(p.b[at+uint64(i*width):], bytesOf(n, width))
	}
	p.ticks += touched(at, uint64(width*times))
	return api.OK
}

func (p *plain) add(at uint64, width int, n uint64) (uint64, api.Errno) {
	was, err := p.get(at, width)
	if err != api.OK {
		return 0, err
	}
	return was, p.fill(at, width, sum(was, n, width), 1)
}

func TestManyCallsAgainstAPlainList(t *testing.T) {
	s, p := space.New(3), &plain{b: make([]byte, 3*page)}
	seed := uint64(1)
	next := func(below uint64) uint64 {
		seed = seed*6364136223846793005 + 1442695040888963407
		return seed >> 33 % below
	}
	for i := range 20000 {
		width := []int{1, 2, 4, 8, 1, 2, 4, 8, 3, 0, -4}[next(11)]
		// Few places, so that numbers of all widths meet; some of them are no multiples, or beyond the end.
		at := next(4)*page + []uint64{0, 1, 2, 4, 8, 12, 16, 4080, 4084, 4088, 4092, 4094, 4095}[next(13)]
		n, times := numbers()[next(uint64(len(numbers())))], int(next(40))-2
		if next(8) == 0 {
			times = int(next(2000))
		}
		var got, want uint64
		var gotErr, wantErr api.Errno
		switch next(4) {
		case 0:
			got, gotErr = cells.Get(s, at, width)
			want, wantErr = p.get(at, width)
		case 1:
			gotErr, wantErr = cells.Put(s, at, width, n), p.fill(at, width, n, 1)
		case 2:
			got, gotErr = cells.Add(s, at, width, n)
			want, wantErr = p.add(at, width, n)
		case 3:
			gotErr, wantErr = cells.Fill(s, at, width, n, times), p.fill(at, width, n, times)
		}
		if got != want || gotErr != wantErr || s.Ticks() != p.ticks {
			t.Fatalf("call %d (at %d, width %d, %#x, %d times): %#x, %v, %d ticks, want %#x, %v, %d", i, at, width, n, times, got, gotErr, s.Ticks(), want, wantErr, p.ticks)
		}
		if i%100 == 0 {
			same(t, s, p.b, "call %d", i)
		}
	}
	same(t, s, p.b, "all calls")
}

func TestAClonesNumbersAreItsOwn(t *testing.T) {
	s := space.New(1)
	ok(t, "Put", cells.Put(s, 8, 4, 70000))
	c := s.Clone()
	cells.Add(c, 8, 4, 5)
	ok(t, "Fill", cells.Fill(c, 0, 1, 9, 8))
	if n, err := cells.Get(s, 8, 4); n != 70000 || err != api.OK {
		t.Error(n, err)
	}
	if n, err := cells.Get(c, 8, 4); n != 70005 || err != api.OK {
		t.Error(n, err)
	}
}
