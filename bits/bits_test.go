package bits_test

import (
	"math/big"
	"testing"

	"steading/api"
	"steading/bits"
)

const top = ^uint64(0)

// numbers are all small ones, and all powers of two with their neighbours, and some between.
func numbers() []uint64 {
	var l []uint64
	for n := range uint64(70) {
		l = append(l, n)
	}
	for k := 6; k < 64; k++ {
		p := uint64(1) << k
		l = append(l, p-2, p-1, p, p+1, p+2, p+p/2, p|0x155)
	}
	return append(l, 4095, 4097, 8191, 8193, 12288, top-4096, top-4095, top-4094, top-2, top-1, top)
}

// few are fewer of them, for tests that take three at once.
func few() []uint64 {
	return []uint64{0, 1, 2, 3, 7, 8, 9, 4095, 4096, 4097, 1<<32 - 1, 1 << 32, 1<<32 + 1, 1<<63 - 1, 1 << 63, 1<<63 + 1, top - 1, top}
}

func number(n uint64) *big.Int { return new(big.Int).SetUint64(n) }

// power is 2^k, also where it is too great.
func power(k int) *big.Int { return new(big.Int).Lsh(big.NewInt(1), uint(k)) }

// held is a number as the program tells it: 0 and false, if it is too great.
func held(n *big.Int) (uint64, bool) {
	if n.Cmp(power(64)) >= 0 {
		return 0, false
	}
	return n.Uint64(), true
}

// P1.1

func TestPowOfKnown(t *testing.T) {
	for n, want := range map[uint64]bool{0: false, 1: true, 2: true, 3: false, 4: true, 6: false, 4096: true, 4097: false, 1<<63 - 1: false, 1 << 63: true, 1<<63 + 1: false, 3 << 62: false, top: false} {
		if got := bits.Pow(n); got != want {
			t.Errorf("Pow(%d) = %v, want %v", n, got, want)
		}
	}
}

func TestPowIsSomePowerOfTwo(t *testing.T) {
	for _, n := range numbers() {
		want := false
		for k := range 64 {
			want = want || power(k).Cmp(number(n)) == 0
		}
		if got := bits.Pow(n); got != want {
			t.Errorf("Pow(%d) = %v, want %v", n, got, want)
		}
	}
}

func TestLogOfKnown(t *testing.T) {
	for n, want := range map[uint64]int{0: -1, 1: 0, 2: 1, 3: 1, 4: 2, 7: 2, 8: 3, 9: 3, 4095: 11, 4096: 12, 1<<63 - 1: 62, 1 << 63: 63, top: 63} {
		if got := bits.Log(n); got != want {
			t.Errorf("Log(%d) = %d, want %d", n, got, want)
		}
	}
}

func TestLogIsGreatestPowerBelow(t *testing.T) {
	for _, n := range numbers() {
		want := -1
		for k := range 65 {
			if power(k).Cmp(number(n)) <= 0 {
				want = k
			}
		}
		if got := bits.Log(n); got != want {
			t.Errorf("Log(%d) = %d, want %d", n, got, want)
		}
	}
}

func TestCeilOfKnown(t *testing.T) {
	for n, want := range map[uint64]int{0: 0, 1: 0, 2: 1, 3: 2, 4: 2, 5: 3, 8: 3, 9: 4, 4096: 12, 4097: 13, 1<<63 - 1: 63, 1 << 63: 63, 1<<63 + 1: 64, top: 64} {
		if got := bits.Ceil(n); got != want {
			t.Errorf("Ceil(%d) = %d, want %d", n, got, want)
		}
	}
}

func TestCeilIsLeastPowerAbove(t *testing.T) {
	for _, n := range numbers() {
		want := 0
		for power(want).Cmp(number(n)) < 0 {
			want++
		}
		if got := bits.Ceil(n); got != want {
			t.Errorf("Ceil(%d) = %d, want %d", n, got, want)
		}
	}
}

// P1.2

func TestUpOfKnown(t *testing.T) {
	for _, x := range []struct {
		n, align, want uint64
		ok             bool
	}{
		{0, 1, 0, true}, {0, 8, 0, true}, {1, 8, 8, true}, {7, 8, 8, true}, {8, 8, 8, true}, {9, 8, 16, true},
		{5, 1, 5, true}, {0, 1 << 63, 0, true}, {1, 1 << 63, 1 << 63, true}, {1 << 63, 1 << 63, 1 << 63, true},
		{top, 1, top, true}, {top - 1, 2, top - 1, true}, {top - 4095, 4096, top - 4095, true}, {top - 4096, 4096, top - 4095, true},
		{top, 2, 0, false}, {top - 4094, 4096, 0, false}, {1<<63 + 1, 1 << 63, 0, false}, {top, 1 << 63, 0, false},
	} {
		if got, ok := bits.Up(x.n, x.align); got != x.want || ok != x.ok {
			t.Errorf("Up(%d, %d) = %d, %v, want %d, %v", x.n, x.align, got, ok, x.want, x.ok)
		}
	}
}

func TestUpRefusesWhatIsNoPowerOfTwo(t *testing.T) {
	// Also of 0 and of multiples: the alignment alone is what is wrong.
	for _, align := range []uint64{0, 3, 5, 6, 7, 12, 4095, 4097, 1<<63 - 1, 1<<63 + 1, 3 << 62, top} {
		for _, n := range []uint64{0, 1, 5, align, align - 1, 2 * align, top} {
			if got, ok := bits.Up(n, align); got != 0 || ok {
				t.Errorf("Up(%d, %d) = %d, %v, want 0, false", n, align, got, ok)
			}
		}
	}
}

func TestUpIsLeastMultiple(t *testing.T) {
	for _, n := range numbers() {
		for k := range 64 {
			align := uint64(1) << k
			count, rest := new(big.Int).QuoRem(number(n), number(align), new(big.Int))
			if rest.Sign() != 0 {
				count.Add(count, big.NewInt(1))
			}
			want, wantOK := held(count.Mul(count, number(align)))
			if got, ok := bits.Up(n, align); got != want || ok != wantOK {
				t.Errorf("Up(%d, %d) = %d, %v, want %d, %v", n, align, got, ok, want, wantOK)
			}
		}
	}
}

func TestAddOfKnown(t *testing.T) {
	for _, x := range []struct {
		a, b, want uint64
		ok         bool
	}{
		{0, 0, 0, true}, {3, 4, 7, true}, {top, 0, top, true}, {0, top, top, true}, {top - 1, 1, top, true},
		{1<<63 - 1, 1 << 63, top, true}, {top, 1, 0, false}, {1, top, 0, false}, {1 << 63, 1 << 63, 0, false},
		{1<<63 + 1, 1 << 63, 0, false}, {top, top, 0, false},
	} {
		if got, ok := bits.Add(x.a, x.b); got != x.want || ok != x.ok {
			t.Errorf("Add(%d, %d) = %d, %v, want %d, %v", x.a, x.b, got, ok, x.want, x.ok)
		}
	}
}

func TestAddIsSumUnlessTooGreat(t *testing.T) {
	for _, a := range numbers() {
		for _, b := range numbers() {
			want, wantOK := held(new(big.Int).Add(number(a), number(b)))
			if got, ok := bits.Add(a, b); got != want || ok != wantOK {
				t.Errorf("Add(%d, %d) = %d, %v, want %d, %v", a, b, got, ok, want, wantOK)
			}
		}
	}
}

// P1.3

func TestInOfKnown(t *testing.T) {
	for _, x := range []struct {
		at, n, size uint64
		want        bool
	}{
		{0, 0, 0, true}, {0, 1, 0, false}, {1, 0, 0, false}, {3, 4, 7, true}, {3, 5, 7, false}, {3, 3, 7, true},
		{7, 0, 7, true}, {8, 0, 7, false}, {0, top, top, true}, {top, 0, top, true}, {top - 1, 1, top, true},
		{top, 1, top, false}, {1, top, top, false}, {top, 2, 5, false}, {top, top, top, false}, {1 << 63, 1 << 63, 0, false},
	} {
		if got := bits.In(x.at, x.n, x.size); got != x.want {
			t.Errorf("In(%d, %d, %d) = %v, want %v", x.at, x.n, x.size, got, x.want)
		}
	}
}

func TestInHoldsTheSumAgainstTheSize(t *testing.T) {
	for _, at := range few() {
		for _, n := range few() {
			sum := new(big.Int).Add(number(at), number(n))
			for _, size := range append(few(), at+n-1, at+n, at+n+1) {
				want := sum.Cmp(number(size)) <= 0
				if got := bits.In(at, n, size); got != want {
					t.Errorf("In(%d, %d, %d) = %v, want %v", at, n, size, got, want)
				}
			}
		}
	}
}

func TestPagesOfKnown(t *testing.T) {
	for n, want := range map[uint64]uint64{0: 0, 1: 1, 4095: 1, 4096: 1, 4097: 2, 8192: 2, 8193: 3, top - 4095: 1<<52 - 1, top - 4094: 1 << 52, top: 1 << 52} {
		if got := bits.Pages(n); got != want {
			t.Errorf("Pages(%d) = %d, want %d", n, got, want)
		}
	}
}

func TestPagesAreLeastThatHaveTheBytes(t *testing.T) {
	page := big.NewInt(api.Page)
	for _, n := range numbers() {
		got := number(bits.Pages(n))
		have := new(big.Int).Mul(got, page)
		if have.Cmp(number(n)) < 0 {
			t.Errorf("Pages(%d) = %d: too few", n, got)
		}
		if got.Sign() > 0 && have.Sub(have, page).Cmp(number(n)) >= 0 {
			t.Errorf("Pages(%d) = %d: one less would do", n, got)
		}
	}
}

// P1.4

func TestWhatIsAMultipleStays(t *testing.T) {
	for _, n := range numbers() {
		for k := range 64 {
			align := uint64(1) << k
			multiple := n - n%align
			if got, ok := bits.Up(multiple, align); got != multiple || !ok {
				t.Errorf("Up(%d, %d) = %d, %v, want it as it is", multiple, align, got, ok)
			}
			once, ok := bits.Up(n, align)
			if twice, again := bits.Up(once, align); ok && (twice != once || !again) {
				t.Errorf("Up(%d, %d) = %d, and up again %d, %v", n, align, once, twice, again)
			}
		}
	}
}

func TestUpByAGreaterAlignmentIsNoLess(t *testing.T) {
	for _, n := range numbers() {
		less, fits := n, true
		for k := range 64 {
			got, ok := bits.Up(n, 1<<k)
			// What is too great by an alignment is so by each greater one.
			if ok && (!fits || got < less) {
				t.Errorf("Up(%d, 2^%d) = %d, below %d (%v) by a lesser alignment", n, k, got, less, fits)
			}
			less, fits = got, ok
		}
	}
}
