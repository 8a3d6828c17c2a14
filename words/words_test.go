package words_test

import (
	"bytes"
	"math"
	"math/big"
	"slices"
	"testing"

	"steading/words"
)

const top = ^uint64(0)

// widths are all there are.
func widths() []int { return []int{1, 2, 4, 8} }

// noWidths are some of those that are none, the neighbours of all widths and the greatest ones among them.
func noWidths() []int {
	return []int{0, 3, 5, 6, 7, 9, 16, 32, 64, -1, -2, -4, -8, math.MaxInt, math.MinInt, math.MinInt + 1, 1<<32 + 1, 1<<61 + 1, 1<<62 + 4}
}

// numbers are those around the power, and around half of the power, of each count of bytes, and some between.
func numbers() []uint64 {
	l := []uint64{0, 1, 2, 3, 100, 258, 0x0123456789abcdef, 0xfedcba9876543210, 0x8070605040302010, 0x80808080_80808080, 0x7f7f7f7f_7f7f7f7f, top - 1, top}
	for k := 7; k < 64; k++ {
		if k%8 == 7 || k%8 == 0 {
			p := uint64(1) << k
			l = append(l, p-2, p-1, p, p+1, p+p/2, p|0x15)
		}
	}
	return l
}

// power is 2^(8 times width), also where it is too great for a number.
func power(width int) *big.Int { return new(big.Int).Lsh(big.NewInt(1), uint(8*width)) }

// rest is what a number leaves by that power.
func rest(n uint64, width int) *big.Int {
	return new(big.Int).Mod(new(big.Int).SetUint64(n), power(width))
}

// bytesOf is a number's bytes by division, the least one first.
func bytesOf(n uint64, width int) []byte {
	left, base, low := rest(n, width), big.NewInt(256), new(big.Int)
	var l []byte
	for range width {
		left.DivMod(left, base, low)
		l = append(l, byte(low.Uint64()))
	}
	return l
}

// ground is bytes that are told apart by their places.
func ground(size int) []byte {
	b := make([]byte, size)
	for i := range b {
		b[i] = byte(0xa0 + i)
	}
	return b
}

// P2.1

func TestPutOfKnown(t *testing.T) {
	for _, x := range []struct {
		at, width int
		n         uint64
		want      []byte
	}{
		{0, 1, 258, []byte{2, 9, 9, 9, 9, 9, 9, 9, 9, 9}},
		{0, 2, 258, []byte{2, 1, 9, 9, 9, 9, 9, 9, 9, 9}},
		{8, 2, 258, []byte{9, 9, 9, 9, 9, 9, 9, 9, 2, 1}},
		{3, 4, 0x0a0b0c0d, []byte{9, 9, 9, 0x0d, 0x0c, 0x0b, 0x0a, 9, 9, 9}},
		{1, 4, 0xff0a0b0c0d, []byte{9, 0x0d, 0x0c, 0x0b, 0x0a, 9, 9, 9, 9, 9}},
		{2, 8, 0x0807060504030201, []byte{9, 9, 1, 2, 3, 4, 5, 6, 7, 8}},
		{0, 8, 0, []byte{0, 0, 0, 0, 0, 0, 0, 0, 9, 9}},
		{9, 1, top, []byte{9, 9, 9, 9, 9, 9, 9, 9, 9, 255}},
	} {
		b := bytes.Repeat([]byte{9}, 10)
		if !words.Put(b, x.at, x.width, x.n) || !bytes.Equal(b, x.want) {
			t.Errorf("Put at %d of width %d of %#x: %v, want %v", x.at, x.width, x.n, b, x.want)
		}
	}
}

func TestPutIsBytesAtEachPlace(t *testing.T) {
	for _, width := range widths() {
		for _, size := range []int{width, width + 1, 2*width + 3} {
			for at := 0; at <= size-width; at++ {
				for _, n := range numbers() {
					b, want := ground(size), ground(size)
					copy(want[at:], bytesOf(n, width))
					if !words.Put(b, at, width, n) || !bytes.Equal(b, want) {
						t.Fatalf("Put at %d of width %d of %#x: %v, want %v", at, width, n, b, want)
					}
				}
			}
		}
	}
}

func TestGetOfKnown(t *testing.T) {
	b := []byte{0, 0, 1, 2, 3, 4, 5, 6, 7, 8, 255}
	for _, x := range []struct {
		at, width int
		want      uint64
	}{
		{2, 1, 1}, {2, 2, 0x0201}, {2, 4, 0x04030201}, {2, 8, 0x0807060504030201}, {0, 1, 0}, {0, 8, 0x0605040302010000},
		{10, 1, 255}, {9, 2, 0xff08}, {7, 4, 0xff080706}, {3, 8, 0xff08070605040302},
	} {
		if n, ok := words.Get(b, x.at, x.width); n != x.want || !ok {
			t.Errorf("Get at %d of width %d: %#x %v, want %#x", x.at, x.width, n, ok, x.want)
		}
	}
}

func TestGetIsNumberOfBytes(t *testing.T) {
	for _, width := range widths() {
		for at := range 4 {
			for _, n := range numbers() {
				b := ground(at + width + 3)
				copy(b[at:], bytesOf(n, width))
				kept := bytes.Clone(b)
				if got, ok := words.Get(b, at, width); got != rest(n, width).Uint64() || !ok {
					t.Errorf("Get at %d of width %d: %#x %v, want %v", at, width, got, ok, rest(n, width))
				}
				if !bytes.Equal(b, kept) {
					t.Fatalf("Get at %d of width %d changed what it was handed", at, width)
				}
			}
		}
	}
}

// refused fails, unless Put and Get turn a place and a width away, and leave the bytes.
func refused(t *testing.T, b []byte, at, width int) {
	t.Helper()
	kept := bytes.Clone(b)
	for _, n := range []uint64{0, 5, top} {
		if words.Put(b, at, width, n) {
			t.Errorf("Put of %d bytes at %d of width %d: true", len(b), at, width)
		}
	}
	if n, ok := words.Get(b, at, width); n != 0 || ok {
		t.Errorf("Get of %d bytes at %d of width %d: %#x %v", len(b), at, width, n, ok)
	}
	if !bytes.Equal(b, kept) {
		t.Errorf("Put of %d bytes at %d of width %d: changed to %v", len(b), at, width, b)
	}
}

func TestNoWidthIsRefused(t *testing.T) {
	for _, width := range noWidths() {
		for _, at := range []int{0, 1, 20, 40, -1} {
			refused(t, ground(40), at, width)
		}
	}
}

func TestNoPlaceIsRefused(t *testing.T) {
	for _, width := range widths() {
		for size := range 20 {
			for _, at := range []int{-1, -2, -width, -size, math.MinInt, math.MinInt + width, math.MaxInt, math.MaxInt - width, math.MaxInt - width + 1, 1 << 32, -1 << 32} {
				if at != 0 {
					refused(t, ground(size), at, width)
				}
			}
			for at := max(0, size-width+1); at < size+10; at++ {
				refused(t, ground(size), at, width)
			}
		}
		refused(t, nil, 0, width)
		refused(t, []byte{}, 0, width)
	}
}

func TestRoomBehindTheListIsNotItsOwn(t *testing.T) {
	b := ground(16)
	refused(t, b[:4], 0, 8)
	refused(t, b[:4], 4, 1)
	if !bytes.Equal(b, ground(16)) {
		t.Error("bytes behind the list were changed")
	}
}

// P2.2

func TestFitsOfKnown(t *testing.T) {
	for _, x := range []struct {
		n     uint64
		width int
		want  bool
	}{
		{0, 1, true}, {255, 1, true}, {256, 1, false}, {65535, 2, true}, {65536, 2, false},
		{1<<24 - 1, 2, false}, {1<<32 - 1, 4, true}, {1 << 32, 4, false}, {1 << 63, 8, true}, {top, 8, true}, {top, 4, false},
	} {
		if got := words.Fits(x.n, x.width); got != x.want {
			t.Errorf("Fits(%d, %d) = %v", x.n, x.width, got)
		}
	}
}

func TestFitsIsBelowThePower(t *testing.T) {
	for _, n := range numbers() {
		for _, width := range widths() {
			want := new(big.Int).SetUint64(n).Cmp(power(width)) < 0
			if got := words.Fits(n, width); got != want {
				t.Errorf("Fits(%d, %d) = %v, want %v", n, width, got, want)
			}
		}
	}
}

func TestSignedOfKnown(t *testing.T) {
	for _, x := range []struct {
		n     uint64
		width int
		want  int64
	}{
		{0, 1, 0}, {127, 1, 127}, {128, 1, -128}, {129, 1, -127}, {255, 1, -1}, {256, 1, 0}, {0x17f, 1, 127}, {0x180, 1, -128},
		{128, 2, 128}, {32767, 2, 32767}, {32768, 2, -32768}, {65535, 2, -1}, {65536, 2, 0}, {40000, 2, -25536},
		{1<<31 - 1, 4, 1<<31 - 1}, {1 << 31, 4, -1 << 31}, {1<<32 - 1, 4, -1}, {1 << 32, 4, 0}, {top, 4, -1},
		{1 << 31, 8, 1 << 31}, {1<<63 - 1, 8, math.MaxInt64}, {1 << 63, 8, math.MinInt64}, {top, 8, -1},
	} {
		if got := words.Signed(x.n, x.width); got != x.want {
			t.Errorf("Signed(%d, %d) = %d, want %d", x.n, x.width, got, x.want)
		}
	}
}

func TestSignedIsRestLessThePowerFromHalfOn(t *testing.T) {
	for _, n := range numbers() {
		for _, width := range widths() {
			want := rest(n, width)
			if new(big.Int).Lsh(want, 1).Cmp(power(width)) >= 0 {
				want.Sub(want, power(width))
			}
			if got := words.Signed(n, width); !want.IsInt64() || got != want.Int64() {
				t.Errorf("Signed(%d, %d) = %d, want %v", n, width, got, want)
			}
		}
	}
}

func TestBytesOfKnown(t *testing.T) {
	for _, x := range []struct {
		width int
		l     []uint64
		want  string
	}{
		{2, []uint64{258}, "\x02\x01"}, {1, []uint64{258, 3, top}, "\x02\x03\xff"}, {4, []uint64{1, 0x01020304}, "\x01\x00\x00\x00\x04\x03\x02\x01"},
		{8, []uint64{1, 1 << 63}, "\x01\x00\x00\x00\x00\x00\x00\x00\x00\x00\x00\x00\x00\x00\x00\x80"}, {2, []uint64{0, 0}, "\x00\x00\x00\x00"},
		{1, nil, ""}, {2, []uint64{}, ""}, {4, nil, ""}, {8, nil, ""},
	} {
		if got := words.Bytes(x.width, x.l...); string(got) != x.want {
			t.Errorf("Bytes(%d, %v) = %v, want %q", x.width, x.l, got, x.want)
		}
	}
	if got := words.Bytes(2, 258, 1); string(got) != "\x02\x01\x01\x00" {
		t.Errorf("Bytes(2, 258, 1) = %v", got)
	}
}

func TestBytesAreThoseOfEach(t *testing.T) {
	for _, width := range widths() {
		l := numbers()
		var want []byte
		for _, n := range l {
			want = append(want, bytesOf(n, width)...)
		}
		if got := words.Bytes(width, l...); !bytes.Equal(got, want) {
			t.Errorf("Bytes of width %d: %v, want %v", width, got, want)
		}
		if !slices.Equal(l, numbers()) {
			t.Errorf("Bytes of width %d changed what it was handed", width)
		}
	}
}

func TestBytesAreNewMemory(t *testing.T) {
	first, second := words.Bytes(4, 1, 2), words.Bytes(4, 1, 2)
	clear(first)
	if string(second) != "\x01\x00\x00\x00\x02\x00\x00\x00" {
		t.Error("two answers share memory", second)
	}
}

func TestNoWidthHasNothing(t *testing.T) {
	for _, width := range noWidths() {
		for _, n := range []uint64{0, 1, 200, top} {
			if words.Fits(n, width) {
				t.Errorf("Fits(%d, %d)", n, width)
			}
			if s := words.Signed(n, width); s != 0 {
				t.Errorf("Signed(%d, %d) = %d", n, width, s)
			}
			if b := words.Bytes(width, n, n); len(b) != 0 {
				t.Errorf("Bytes(%d, %d) = %v", width, n, b)
			}
		}
		if b := words.Bytes(width); len(b) != 0 {
			t.Errorf("Bytes(%d) = %v", width, b)
		}
	}
}

// P2.3

func TestWhatWasPutIsGotWhereItFits(t *testing.T) {
	for _, width := range widths() {
		for at := range 5 {
			for _, n := range numbers() {
				b := ground(at + width + 2)
				words.Put(b, at, width, n)
				if got, ok := words.Get(b, at, width); !ok || (got == n) != words.Fits(n, width) {
					t.Errorf("put %#x at %d of width %d, got %#x %v", n, at, width, got, ok)
				}
			}
		}
	}
}

func TestOtherBytesStay(t *testing.T) {
	for _, width := range widths() {
		for at := range 5 {
			for _, n := range []uint64{0, 0x55, 1 << 40, top} {
				b := ground(at + width + 9)
				if !words.Put(b, at, width, n) {
					t.Fatalf("Put at %d of width %d: false", at, width)
				}
				for i, was := range ground(len(b)) {
					if (i < at || i >= at+width) && b[i] != was {
						t.Errorf("Put at %d of width %d changed byte %d", at, width, i)
					}
				}
			}
		}
	}
}

func TestWhatWasPutStaysBesideOthers(t *testing.T) {
	for _, width := range widths() {
		l := numbers()
		b := make([]byte, width*len(l))
		for i := range l {
			// From the last one on, so that one that writes too far is seen.
			at := len(l) - 1 - i
			if !words.Put(b, at*width, width, l[at]) {
				t.Fatalf("Put at %d of width %d: false", at*width, width)
			}
		}
		if !bytes.Equal(b, words.Bytes(width, l...)) {
			t.Errorf("put one by one of width %d: %v", width, b)
		}
		for i, n := range l {
			if got, ok := words.Get(b, i*width, width); !ok || got != rest(n, width).Uint64() {
				t.Errorf("put %#x at %d of width %d, got %#x %v", n, i*width, width, got, ok)
			}
		}
	}
}
