package handle_test

import (
	"math"
	"math/big"
	"testing"

	"steading/handle"
)

const (
	top      = ^uint64(0)
	least    = uint64(1) << 62 // the least handle
	lastSlot = 1<<32 - 1
	lastGen  = 1<<30 - 1
)

// slots, and gens, are some that may be: the ends, and each bit alone.
var (
	slots = upTo(32)
	gens  = upTo(30)
)

// wrongKinds, wrongSlots and wrongGens are none; cut short to the bits of a part, many of them would be some.
var (
	wrongKinds = []int{0, -1, -2, -3, -4, 4, 5, 6, 7, 8, 9, 255, 257, math.MaxInt32, 1<<32 + 1, 1<<62 + 1, math.MaxInt - 2, math.MaxInt, math.MinInt32, -1 << 62, math.MinInt, math.MinInt + 1, math.MinInt + 3}
	wrongSlots = []int{-1, -2, -lastSlot, -1 << 32, -1<<32 + 5, math.MinInt32, lastSlot + 1, lastSlot + 2, 1<<32 + 5, 1<<33 - 1, 1 << 33, 1 << 62, 1<<62 + 5, math.MaxInt - 1, math.MaxInt, -1 << 62, math.MinInt, math.MinInt + 1, math.MinInt + 5}
	wrongGens  = []int{-1, -2, -lastGen, -1 << 30, -1<<30 + 5, math.MinInt32, lastGen + 1, lastGen + 2, 1<<30 + 5, 1<<31 - 1, 1 << 31, 1<<32 - 1, 1 << 32, 1<<32 + 5, 1 << 62, 1<<62 + 5, math.MaxInt - 1, math.MaxInt, -1 << 62, math.MinInt, math.MinInt + 1, math.MinInt + 5}
)

// upTo are some numbers of so many bits at most.
func upTo(bits int) []int {
	l := []int{0, 3, 5, 6, 7, 10, 100, 1000, 0x155, 0x2aa, 1<<bits - 2, 1<<bits - 1, 1<<bits - 3, (1<<bits - 1) / 3, (1<<bits - 1) / 3 * 2}
	for k := range bits {
		l = append(l, 1<<k, 1<<bits-1-1<<k)
	}
	return l
}

// number is what a handle is, in numbers of any length.
func number(kind, slot, gen int) uint64 {
	n := new(big.Int).Lsh(big.NewInt(int64(kind)), 62)
	n.Add(n, new(big.Int).Lsh(big.NewInt(int64(gen)), 32))
	return n.Add(n, big.NewInt(int64(slot))).Uint64()
}

// parts are what a handle tells, by division.
func parts(h uint64) (int, int, int) {
	return int(h / least), int(h % (lastSlot + 1)), int(h % least / (lastSlot + 1))
}

// holdHandle holds Pack, and Unpack of what it is, against what they should be.
func holdHandle(t *testing.T, kind, slot, gen int, want uint64) {
	t.Helper()
	if h := handle.Pack(kind, slot, gen); h != want {
		t.Errorf("Pack(%d, %d, %d): %d, not %d", kind, slot, gen, h, want)
	}
	if k, s, g, ok := handle.Unpack(want); k != kind || s != slot || g != gen || !ok {
		t.Errorf("Unpack(%d): %d %d %d %v, not %d %d %d", want, k, s, g, ok, kind, slot, gen)
	}
}

// holdNone fails, unless there is no handle of these.
func holdNone(t *testing.T, kind, slot, gen int) {
	t.Helper()
	if h := handle.Pack(kind, slot, gen); h != 0 {
		t.Errorf("Pack(%d, %d, %d): %d, not 0", kind, slot, gen, h)
	}
}

// holdNoHandle fails, unless Unpack tells false, and all zero.
func holdNoHandle(t *testing.T, h uint64) {
	t.Helper()
	if k, s, g, ok := handle.Unpack(h); k != 0 || s != 0 || g != 0 || ok {
		t.Errorf("Unpack(%d): %d %d %d %v, not none", h, k, s, g, ok)
	}
}

// holdNext holds Next against what it should be.
func holdNext(t *testing.T, gen, want int) {
	t.Helper()
	if n := handle.Next(gen); n != want {
		t.Errorf("Next(%d): %d, not %d", gen, n, want)
	}
}

// chance is numbers, always the same ones: of 64 bits each.
func chance(seed uint64) func() uint64 {
	return func() uint64 {
		seed = seed*6364136223846793005 + 1442695040888963407
		return seed ^ seed>>29 ^ seed<<31
	}
}

// P12.1

func TestTheExample(t *testing.T) {
	holdHandle(t, 1, 5, 2, 1<<62+1<<33+5)
}

func TestEachPartAlone(t *testing.T) {
	holdHandle(t, 1, 0, 0, 1<<62)
	holdHandle(t, 2, 0, 0, 1<<63)
	holdHandle(t, 3, 0, 0, 3<<62)
	holdHandle(t, 1, 1, 0, 1<<62+1)
	holdHandle(t, 1, 0, 1, 1<<62+1<<32)
	holdHandle(t, 2, 7, 1, 1<<63+1<<32+7)
	holdHandle(t, 3, 1<<31, 1<<29, 3<<62+1<<61+1<<31)
}

func TestTheEnds(t *testing.T) {
	for kind := 1; kind <= 3; kind++ {
		first := uint64(kind) * least
		holdHandle(t, kind, 0, 0, first)
		holdHandle(t, kind, lastSlot, 0, first+1<<32-1)
		holdHandle(t, kind, 0, lastGen, first+1<<62-1<<32)
		holdHandle(t, kind, lastSlot, lastGen, first+(1<<62-1))
	}
	holdHandle(t, 1, 0, 0, least)
	holdHandle(t, 3, lastSlot, lastGen, top)
}

func TestHandlesOfManySlotsAndGenerations(t *testing.T) {
	for kind := 1; kind <= 3; kind++ {
		for _, slot := range slots {
			for _, gen := range gens {
				holdHandle(t, kind, slot, gen, number(kind, slot, gen))
			}
		}
	}
}

func TestPackOfWrongKinds(t *testing.T) {
	for _, kind := range wrongKinds {
		for _, slot := range []int{0, 1, 5, lastSlot} {
			for _, gen := range []int{0, 1, 2, lastGen} {
				holdNone(t, kind, slot, gen)
			}
		}
	}
}

func TestPackOfWrongSlots(t *testing.T) {
	for _, slot := range wrongSlots {
		for kind := 1; kind <= 3; kind++ {
			for _, gen := range []int{0, 1, 2, lastGen} {
				holdNone(t, kind, slot, gen)
			}
		}
	}
}

func TestPackOfWrongGenerations(t *testing.T) {
	for _, gen := range wrongGens {
		for kind := 1; kind <= 3; kind++ {
			for _, slot := range []int{0, 1, 5, lastSlot} {
				holdNone(t, kind, slot, gen)
			}
		}
	}
}

func TestPackOfSeveralWrongParts(t *testing.T) {
	for _, kind := range append(wrongKinds, 1, 3) {
		for _, slot := range wrongSlots {
			for _, gen := range append(wrongGens, 0, lastGen) {
				holdNone(t, kind, slot, gen)
			}
		}
		for _, gen := range wrongGens {
			holdNone(t, kind, 0, gen)
			holdNone(t, kind, lastSlot, gen)
		}
	}
}

func TestPackOfAllKindsAroundTheRightOnes(t *testing.T) {
	for kind := -300; kind <= 300; kind++ {
		want := uint64(0)
		if kind == 1 || kind == 2 || kind == 3 {
			want = uint64(kind)*least + 9<<32 + 8
		}
		if h := handle.Pack(kind, 8, 9); h != want {
			t.Error(kind, h)
		}
	}
}

func TestPackAroundEachPower(t *testing.T) {
	for k := range 63 {
		for near := -2; near <= 2; near++ {
			n := 1<<k + near
			for _, n := range []int{n, -n} {
				slot, gen := uint64(0), uint64(0)
				if n >= 0 && n <= lastSlot {
					slot = number(2, n, 7)
				}
				if n >= 0 && n <= lastGen {
					gen = number(2, 7, n)
				}
				if h := handle.Pack(2, n, 7); h != slot {
					t.Error("slot", n, h)
				}
				if h := handle.Pack(2, 7, n); h != gen {
					t.Error("generation", n, h)
				}
			}
		}
	}
}

func TestUnpackOfNumbersThatAreNone(t *testing.T) {
	for n := range uint64(5000) {
		holdNoHandle(t, n)
		holdNoHandle(t, least-1-n)
	}
	for k := range 62 {
		for near := range uint64(5) {
			holdNoHandle(t, (1<<k+near)%least)
			holdNoHandle(t, 1<<k-1)
			holdNoHandle(t, least-1<<k-near%(1<<k))
		}
	}
	holdNoHandle(t, 0)
	holdNoHandle(t, 1<<32-1)
	holdNoHandle(t, 1<<32)
	holdNoHandle(t, 1<<62-1)
	next := chance(5)
	for range 20000 {
		holdNoHandle(t, next()%least)
	}
}

func TestUnpackOfWhatPackIsOfNone(t *testing.T) {
	for _, h := range []uint64{handle.Pack(0, 5, 2), handle.Pack(4, 5, 2), handle.Pack(1, -1, 2), handle.Pack(1, 5, -1)} {
		holdNoHandle(t, h)
	}
}

// P12.2

func TestNextOfTheEnds(t *testing.T) {
	holdNext(t, 0, 1)
	holdNext(t, 1, 2)
	holdNext(t, lastGen-2, lastGen-1)
	holdNext(t, lastGen-1, lastGen)
	holdNext(t, lastGen, 0)
}

func TestNextOfManyGenerations(t *testing.T) {
	for gen := range 5000 {
		holdNext(t, gen, gen+1)
		holdNext(t, lastGen-1-gen, lastGen-gen)
	}
	for k := range 30 {
		holdNext(t, 1<<k-1, 1<<k)
		holdNext(t, 1<<k, 1<<k+1)
	}
}

func TestNextOfNone(t *testing.T) {
	for _, gen := range wrongGens {
		holdNext(t, gen, 0)
	}
	for n := range 5000 {
		holdNext(t, -1-n, 0)
		holdNext(t, lastGen+1+n, 0)
		holdNext(t, math.MaxInt-n, 0)
		holdNext(t, math.MinInt+n, 0)
	}
	for k := 30; k < 63; k++ {
		for near := range 3 {
			holdNext(t, 1<<k+near, 0)
			holdNext(t, -1<<k+near, 0)
			holdNext(t, -1<<k-near, 0)
		}
	}
}

func TestNextOfAGenerationIsOne(t *testing.T) {
	for _, gen := range gens {
		n := handle.Next(gen)
		if handle.Pack(2, 5, n) == 0 || handle.Pack(2, 5, n) == handle.Pack(2, 5, gen) {
			t.Error(gen, n)
		}
	}
}

// P12.3

func TestWhatIsPackedIsUnpackedAsItWas(t *testing.T) {
	next := chance(12)
	for range 100000 {
		kind, slot, gen := 1+int(next()%3), int(next()%(lastSlot+1)), int(next()%(lastGen+1))
		k, s, g, ok := handle.Unpack(handle.Pack(kind, slot, gen))
		if k != kind || s != slot || g != gen || !ok {
			t.Fatal(kind, slot, gen, k, s, g, ok)
		}
	}
}

// holdNumber holds a number from 2^62 on: it is unpacked by division, and packed again as it was.
func holdNumber(t *testing.T, h uint64) {
	t.Helper()
	k, s, g, ok := handle.Unpack(h)
	wk, ws, wg := parts(h)
	if k != wk || s != ws || g != wg || !ok {
		t.Errorf("Unpack(%d): %d %d %d %v, not %d %d %d", h, k, s, g, ok, wk, ws, wg)
	}
	if again := handle.Pack(k, s, g); again != h {
		t.Errorf("%d is packed again as %d", h, again)
	}
}

func TestEachNumberFrom2To62OnIsOneHandle(t *testing.T) {
	for n := range uint64(3000) {
		for kind := uint64(1); kind <= 3; kind++ {
			holdNumber(t, kind*least+n)
			holdNumber(t, kind*least+(least-1)-n)
			holdNumber(t, kind*least+n<<32)
			holdNumber(t, kind*least+1<<32-1-n)
		}
	}
	for k := range 62 {
		for kind := uint64(1); kind <= 3; kind++ {
			holdNumber(t, kind*least+1<<k)
			holdNumber(t, kind*least+(1<<k-1))
			holdNumber(t, kind*least+(least-1)-1<<k)
		}
	}
	next := chance(62)
	for range 100000 {
		h := next()
		if h < least {
			h += least
		}
		holdNumber(t, h)
	}
}

func TestOthersAreOtherNumbers(t *testing.T) {
	of := map[uint64][3]int{}
	for kind := 1; kind <= 3; kind++ {
		for _, slot := range slots {
			for _, gen := range gens {
				h, it := handle.Pack(kind, slot, gen), [3]int{kind, slot, gen}
				if was, is := of[h]; is && was != it {
					t.Fatal(h, was, it)
				}
				of[h] = it
				if h < least {
					t.Fatal(it, h)
				}
			}
		}
	}
}

func TestASlotUsedAgainHasAnotherHandle(t *testing.T) {
	seen := map[uint64]bool{}
	for _, first := range []int{0, 1000, lastGen - 500} {
		gen := first
		for range 500 {
			h := handle.Pack(2, 7, gen)
			if seen[h] || h == 0 {
				t.Fatal(gen, h)
			}
			seen[h] = true
			gen = handle.Next(gen)
		}
		if gen != first+500 {
			t.Error(gen)
		}
	}
}

func TestTheGenerationsGoRound(t *testing.T) {
	if h := handle.Pack(3, 9, handle.Next(lastGen)); h != handle.Pack(3, 9, 0) || h != 3<<62+9 {
		t.Error(h)
	}
}

func TestTwiceTheSame(t *testing.T) {
	for range 3 {
		holdHandle(t, 1, 5, 2, 1<<62+1<<33+5)
		holdNone(t, 4, 5, 2)
		holdNoHandle(t, 5)
		holdNext(t, 5, 6)
		holdNext(t, -5, 0)
	}
}

// The signatures, of which the compiler tells.
var (
	_ func(int, int, int) uint64         = handle.Pack
	_ func(uint64) (int, int, int, bool) = handle.Unpack
	_ func(int) int                      = handle.Next
)
