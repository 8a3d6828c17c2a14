package table_test

import (
	"math"
	"slices"
	"strconv"
	"testing"

	"steading/handle"
	"steading/table"
)

const (
	top      = ^uint64(0)
	least    = uint64(1) << 62 // the least handle
	lastSlot = 1<<32 - 1
	lastGen  = 1<<30 - 1
)

// noKind are numbers of no kind; some of them would be one if they went round, or lost bits.
var noKind = []int{0, 4, 5, 6, 7, 8, 9, 255, 257, 1 << 32, 1<<32 + 1, 1 << 62, 1<<62 + 1, math.MaxInt32, math.MaxInt - 2, math.MaxInt, -1, -2, -3, -4, math.MinInt32, -1 << 62, math.MinInt, math.MinInt + 1, math.MinInt + 3}

// beast is a thing of several parts.
type beast struct {
	name string
	legs int
	spot [2]bool
}

// number is the handle of a kind, a slot and a generation, added up.
func number(kind, slot, gen int) uint64 {
	return uint64(kind)*least + uint64(gen)*(lastSlot+1) + uint64(slot)
}

// chance is numbers, always the same ones.
func chance(seed uint64) func(int) int {
	return func(n int) int {
		seed = seed*6364136223846793005 + 1442695040888963407
		return int(seed >> 33 % uint64(n))
	}
}

// plain is what a Table is held against: live handles and their things in a map, and slots in lists.
type plain[T comparable] struct {
	kind   int
	things map[uint64]T
	gens   []int // of all slots that were ever used
	freed  []int // the one that was freed last ahead
}

func newPlain[T comparable](kind int) *plain[T] {
	return &plain[T]{kind: kind, things: map[uint64]T{}}
}

func (p *plain[T]) add(v T) uint64 {
	if p.kind < 1 || p.kind > 3 {
		return 0
	}
	slot := len(p.gens)
	if len(p.freed) > 0 {
		slot, p.freed = p.freed[0], slices.Clone(p.freed[1:])
	} else {
		p.gens = append(p.gens, 0)
	}
	h := number(p.kind, slot, p.gens[slot])
	p.things[h] = v
	return h
}

func (p *plain[T]) set(h uint64, v T) bool {
	_, is := p.things[h]
	if is {
		p.things[h] = v
	}
	return is
}

func (p *plain[T]) drop(h uint64) bool {
	if _, is := p.things[h]; !is {
		return false
	}
	delete(p.things, h)
	slot := int(h % (lastSlot + 1))
	p.gens[slot]++
	p.freed = append([]int{slot}, p.freed...)
	return true
}

// handles are those that are live, sorted by their slots.
func (p *plain[T]) handles() []uint64 {
	var l []uint64
	for h := range p.things {
		l = append(l, h)
	}
	slices.SortFunc(l, func(a, b uint64) int { return int(a%(lastSlot+1)) - int(b%(lastSlot+1)) })
	return l
}

// both is a Table, and what it is held against.
type both[T comparable] struct {
	t *testing.T
	x *table.Table[T]
	p *plain[T]
}

func newBoth[T comparable](t *testing.T, kind int) *both[T] {
	return &both[T]{t: t, x: table.New[T](kind), p: newPlain[T](kind)}
}

// add adds to both: the handle.
func (b *both[T]) add(v T) uint64 {
	b.t.Helper()
	want := b.p.add(v)
	if h := b.x.Add(v); h != want {
		b.t.Fatalf("Add(%v) = %d, want %d", v, h, want)
	}
	return want
}

func (b *both[T]) get(h uint64) {
	b.t.Helper()
	want, is := b.p.things[h]
	if v, ok := b.x.Get(h); v != want || ok != is {
		b.t.Fatalf("Get(%d) = %v, %v, want %v, %v", h, v, ok, want, is)
	}
}

func (b *both[T]) set(h uint64, v T) {
	b.t.Helper()
	want := b.p.set(h, v)
	if is := b.x.Set(h, v); is != want {
		b.t.Fatalf("Set(%d, %v) = %v, want %v", h, v, is, want)
	}
}

func (b *both[T]) drop(h uint64) {
	b.t.Helper()
	want := b.p.drop(h)
	if is := b.x.Drop(h); is != want {
		b.t.Fatalf("Drop(%d) = %v, want %v", h, is, want)
	}
}

// held fails, unless the Table tells of itself what the other one does: its handles, how many, and each one's thing.
func (b *both[T]) held() {
	b.t.Helper()
	want := b.p.handles()
	if l := b.x.Handles(); !slices.Equal(l, want) {
		b.t.Fatalf("Handles() = %v, want %v", l, want)
	}
	if n := b.x.Len(); n != len(want) {
		b.t.Fatalf("Len() = %d, want %d", n, len(want))
	}
	for _, h := range want {
		b.get(h)
	}
}

// dead fails, unless none of these are live: Get, Set and Drop of each tell nothing, and change nothing.
func (b *both[T]) dead(v T, hs ...uint64) {
	b.t.Helper()
	for _, h := range hs {
		if _, is := b.p.things[h]; is {
			b.t.Fatalf("%d is live, and the test is wrong", h)
		}
		b.get(h)
		b.set(h, v)
		b.get(h)
		b.drop(h)
	}
	b.held()
}

// P13.1

func TestTheExample(t *testing.T) {
	x := table.New[string](2)
	if h := x.Add("a"); h != handle.Pack(2, 0, 0) || !x.Drop(h) {
		t.Error(h)
	}
	if h := x.Add("b"); h != handle.Pack(2, 0, 1) {
		t.Error(h)
	}
}

func TestNewHasNothing(t *testing.T) {
	for kind := 1; kind <= 3; kind++ {
		b := newBoth[int](t, kind)
		if b.x == nil || b.x.Len() != 0 || len(b.x.Handles()) != 0 {
			t.Fatal(kind)
		}
		b.dead(5, 0, number(kind, 0, 0), number(kind, 0, 1), number(kind, 1, 0), number(kind, lastSlot, lastGen))
	}
}

func TestTheFirstSlots(t *testing.T) {
	for kind := 1; kind <= 3; kind++ {
		x := table.New[int](kind)
		for slot := range 1000 {
			if h := x.Add(slot * 7); h != number(kind, slot, 0) || h != handle.Pack(kind, slot, 0) || x.Len() != slot+1 {
				t.Fatal(kind, slot, h)
			}
		}
	}
}

func TestTheFirstHandlesByNumber(t *testing.T) {
	for kind, want := range map[int]uint64{1: 1 << 62, 2: 1 << 63, 3: 3 << 62} {
		x := table.New[string](kind)
		first, second := x.Add("a"), x.Add("b")
		if first != want || second != want+1 || !x.Drop(first) || x.Add("c") != want+1<<32 {
			t.Error(kind, first, second)
		}
	}
}

func TestTheOneFreedLastIsUsedFirst(t *testing.T) {
	b := newBoth[int](t, 1)
	var hs []uint64
	for n := range 6 {
		hs = append(hs, b.add(n))
	}
	for _, slot := range []int{4, 0, 3, 1} {
		b.drop(hs[slot])
		b.held()
	}
	for n, slot := range []int{1, 3, 0, 4} {
		if h := b.add(10 + n); h != number(1, slot, 1) {
			t.Fatal(n, h)
		}
		b.held()
	}
	for slot := 6; slot < 9; slot++ {
		if h := b.add(slot); h != number(1, slot, 0) {
			t.Fatal(slot, h)
		}
	}
	b.held()
}

func TestASlotFreedBetweenTwoAdds(t *testing.T) {
	b := newBoth[int](t, 3)
	first, second, third := b.add(1), b.add(2), b.add(3)
	b.drop(first)
	b.drop(third)
	if h := b.add(4); h != number(3, 2, 1) {
		t.Error(h)
	}
	// Freed behind the first slot: it is used ahead of it.
	b.drop(second)
	for _, slot := range []int{1, 0} {
		if h := b.add(5); h != number(3, slot, 1) {
			t.Error(slot, h)
		}
	}
	if h := b.add(6); h != number(3, 3, 0) {
		t.Error(h)
	}
	b.held()
}

func TestASlotNeverUsedOnlyWhenNoneIsFree(t *testing.T) {
	b := newBoth[int](t, 2)
	for size := 1; size <= 12; size++ {
		b.add(size)
		hs := b.p.handles()
		for _, h := range hs {
			b.drop(h)
		}
		for range size {
			if h := b.add(size); h%(lastSlot+1) >= uint64(size) {
				t.Fatal(size, h)
			}
		}
		b.held()
	}
}

func TestATableOfWhichAllSlotsAreFreed(t *testing.T) {
	for _, back := range []bool{false, true} {
		b := newBoth[string](t, 1)
		for n := range 20 {
			b.add(strconv.Itoa(n))
		}
		for round := range 3 {
			hs := b.p.handles()
			if back {
				slices.Reverse(hs)
			}
			for _, h := range hs {
				b.drop(h)
			}
			b.held()
			if b.x.Len() != 0 || len(b.x.Handles()) != 0 {
				t.Fatal(b.x.Len(), b.x.Handles())
			}
			b.dead("q", hs...)
			for n := range hs {
				want := number(1, int(hs[len(hs)-1-n]%(lastSlot+1)), round+1)
				if h := b.add("again"); h != want {
					t.Fatal(back, n, h, want)
				}
			}
			b.held()
		}
	}
}

func TestAddOfNoKind(t *testing.T) {
	for _, kind := range noKind {
		b := newBoth[string](t, kind)
		if b.x == nil {
			t.Fatal(kind)
		}
		for range 3 {
			if h := b.x.Add("a"); h != 0 || b.x.Len() != 0 || len(b.x.Handles()) != 0 {
				t.Fatal(kind, h)
			}
		}
		b.dead("q", 0, 1, least-1, number(1, 0, 0), number(2, 0, 0), number(3, 0, 0), number(1, 1, 0), number(1, 2, 0), number(1, 0, 1), uint64(kind), uint64(kind)<<62, top)
	}
}

func TestKindsAroundTheRightOnes(t *testing.T) {
	for kind := -300; kind <= 300; kind++ {
		want := uint64(0)
		if kind >= 1 && kind <= 3 {
			want = number(kind, 0, 0)
		}
		if h := table.New[int](kind).Add(9); h != want {
			t.Error(kind, h)
		}
	}
}

func TestManySlots(t *testing.T) {
	const many = 70000
	x := table.New[int](3)
	for slot := range many {
		if h := x.Add(slot); h != number(3, slot, 0) {
			t.Fatal(slot, h)
		}
	}
	for _, slot := range []int{0, 1, 255, 256, 32767, 32768, 65535, 65536, many - 1} {
		if v, is := x.Get(number(3, slot, 0)); v != slot || !is {
			t.Error(slot, v, is)
		}
	}
	for _, slot := range []int{many, many + 1, 1 << 17, 1<<31 - 1, 1 << 31, lastSlot} {
		if v, is := x.Get(number(3, slot, 0)); v != 0 || is {
			t.Error(slot, v, is)
		}
	}
	if l := x.Handles(); len(l) != many || !slices.IsSorted(l) || x.Len() != many {
		t.Error(len(l), x.Len())
	}
}

func TestManyGenerations(t *testing.T) {
	x := table.New[int](1)
	x.Add(5)
	for gen := range 70000 {
		h := x.Add(gen)
		if v, is := x.Get(h); h != number(1, 1, gen) || v != gen || !is {
			t.Fatal(gen, h, v, is)
		}
		if !x.Drop(h) || x.Len() != 1 {
			t.Fatal(gen)
		}
	}
	if v, is := x.Get(number(1, 0, 0)); v != 5 || !is {
		t.Error(v, is)
	}
}

// P13.2

func TestWhatWasSetLastIsGot(t *testing.T) {
	b := newBoth[string](t, 1)
	first, second, third := b.add("a"), b.add("b"), b.add("c")
	for _, v := range []string{"B", "", "b", "B", "BB"} {
		b.set(second, v)
		b.held()
	}
	b.set(first, "A")
	b.set(third, "")
	b.held()
	if v, is := b.x.Get(second); v != "BB" || !is {
		t.Error(v, is)
	}
	if v, is := b.x.Get(third); v != "" || !is {
		t.Error(v, is)
	}
}

func TestAZeroThingIsOne(t *testing.T) {
	b := newBoth[beast](t, 2)
	first, second := b.add(beast{}), b.add(beast{name: "cow", legs: 4})
	b.set(second, beast{})
	b.held()
	for _, h := range []uint64{first, second} {
		if v, is := b.x.Get(h); v != (beast{}) || !is {
			t.Error(h, v, is)
		}
	}
	b.drop(first)
	b.held()
}

func TestAThingOfEarlierIsntInASlotUsedAgain(t *testing.T) {
	b := newBoth[beast](t, 1)
	h := b.add(beast{"cow", 4, [2]bool{true, true}})
	b.drop(h)
	if h = b.add(beast{name: "hen"}); h != number(1, 0, 1) {
		t.Error(h)
	}
	if v, _ := b.x.Get(h); v != (beast{name: "hen"}) {
		t.Error(v)
	}
}

func TestAThingThatIsGotIsACopy(t *testing.T) {
	x := table.New[beast](1)
	cow := beast{"cow", 4, [2]bool{true, false}}
	h := x.Add(cow)
	got, _ := x.Get(h)
	got.spot[1], got.legs, cow.name = true, 3, "ox"
	if v, is := x.Get(h); v != (beast{"cow", 4, [2]bool{true, false}}) || !is {
		t.Error(v, is)
	}
}

func TestDropTwice(t *testing.T) {
	b := newBoth[int](t, 1)
	first, second := b.add(1), b.add(2)
	b.drop(first)
	b.dead(9, first, first)
	// Had the second Drop freed it again, it would be used twice.
	third, fourth := b.add(3), b.add(4)
	if third != number(1, 0, 1) || fourth != number(1, 2, 0) {
		t.Error(third, fourth)
	}
	b.dead(9, first)
	b.drop(second)
	b.dead(9, first, second)
}

// strangers are handles that are near to one, and aren't live with it.
func strangers(kind, slot, gen int) []uint64 {
	h := number(kind, slot, gen)
	l := []uint64{0, 1, uint64(slot), h % least, h % (lastSlot + 1), least - 1, lastSlot, lastSlot + 1, top}
	for k := 1; k <= 3; k++ {
		if k != kind {
			l = append(l, number(k, slot, gen))
		}
	}
	for k := range 30 {
		l = append(l, number(kind, slot, gen^1<<k))
	}
	for g := range gen {
		l = append(l, number(kind, slot, g))
	}
	for _, g := range []int{gen + 1, gen + 2, gen + 1000, lastGen - 1, lastGen} {
		l = append(l, number(kind, slot, g))
	}
	// Behind the last slot that was ever used there is no other, of whatever generation.
	for k := 8; k < 32; k++ {
		l = append(l, h^1<<k)
	}
	return l
}

func TestOthersThanALiveHandle(t *testing.T) {
	for kind := 1; kind <= 3; kind++ {
		b := newBoth[string](t, kind)
		for n := range 5 {
			b.add("thing " + strconv.Itoa(n))
		}
		for gen := range 6 {
			for slot := range 5 {
				b.dead("q", strangers(kind, slot, gen)...)
			}
			for _, h := range b.p.handles() {
				b.drop(h)
				b.dead("q", h, number(kind, 5, 0), number(kind, 6, 0), number(kind, lastSlot, 0), number(kind, lastSlot, gen))
			}
			for slot := range 5 {
				// Free slots: of none of their generations there is a thing.
				for g := range gen + 3 {
					b.dead("q", number(kind, slot, g))
				}
				b.dead("q", number(kind, slot, lastGen))
			}
			for slot := range 5 {
				b.add("again " + strconv.Itoa(slot))
			}
		}
		b.held()
	}
}

func TestNumbersBelow2To62(t *testing.T) {
	b := newBoth[int](t, 1)
	b.add(7)
	b.add(8)
	for k := range 62 {
		b.dead(9, 1<<k, 1<<k-1, 1<<k+1, least-1<<k)
	}
	b.drop(number(1, 0, 0))
	for k := range 62 {
		b.dead(9, 1<<k, 1<<k-1, 1<<k+1, least-1<<k)
	}
}

func TestAHandleOfAnotherTable(t *testing.T) {
	a, b := newBoth[int](t, 1), newBoth[int](t, 2)
	h, g := a.add(1), b.add(2)
	a.dead(9, g)
	b.dead(9, h)
	a.drop(h)
	a.held()
	b.held()
	// Tables of one kind have the same handles, and nothing else in common.
	c, d := newBoth[int](t, 1), newBoth[int](t, 1)
	if h, g := c.add(1), d.add(2); h != g {
		t.Error(h, g)
	}
	c.drop(number(1, 0, 0))
	c.held()
	d.held()
}

func TestHandlesByTheLeastSlotFirst(t *testing.T) {
	b := newBoth[int](t, 2)
	for n := range 10 {
		b.add(n)
	}
	for _, slot := range []int{7, 2, 9, 0, 5} {
		b.drop(number(2, slot, 0))
	}
	for n := range 3 {
		b.add(20 + n)
	}
	want := []uint64{number(2, 0, 1), number(2, 1, 0), number(2, 3, 0), number(2, 4, 0), number(2, 5, 1), number(2, 6, 0), number(2, 8, 0), number(2, 9, 1)}
	if l := b.x.Handles(); !slices.Equal(l, want) {
		t.Error(l)
	}
	b.drop(number(2, 1, 0))
	b.drop(number(2, 9, 1))
	b.add(30)
	want = []uint64{number(2, 0, 1), number(2, 3, 0), number(2, 4, 0), number(2, 5, 1), number(2, 6, 0), number(2, 8, 0), number(2, 9, 2)}
	if l := b.x.Handles(); !slices.Equal(l, want) || b.x.Len() != 7 {
		t.Error(l)
	}
}

func TestHandlesIsNewMemory(t *testing.T) {
	b := newBoth[int](t, 3)
	for n := range 5 {
		b.add(n)
	}
	b.drop(number(3, 2, 0))
	l, again := b.x.Handles(), b.x.Handles()
	for i := range l {
		l[i] = 5
	}
	if !slices.Equal(again, b.p.handles()) {
		t.Error(again)
	}
	_ = append(l[:0], 1, 2, 3)
	b.held()
	b.add(9)
	b.add(10)
	b.held()
	if !slices.Equal(again, []uint64{number(3, 0, 0), number(3, 1, 0), number(3, 3, 0), number(3, 4, 0)}) {
		t.Error(again)
	}
}

// P13.1, P13.2: step by step against the plain one

// walk does many things with a Table, by chance: mostly with handles that are live, or were, or nearly are.
func walk[T comparable](t *testing.T, kind, steps, many int, seed uint64, thing func(int) T) {
	t.Helper()
	b, next := newBoth[T](t, kind), chance(seed)
	all := []uint64{0, least, top}
	for step := range steps {
		h := all[next(len(all))]
		if live := b.p.handles(); len(live) > 0 && next(2) == 0 {
			h = live[next(len(live))]
		}
		switch next(7) {
		case 0, 1:
			if len(b.p.things) < many {
				all = append(all, b.add(thing(step)))
			}
		case 2, 3:
			b.drop(h)
		case 4:
			b.set(h, thing(-step))
		case 5:
			b.get(h)
		case 6:
			h ^= 1 << next(64)
			b.get(h)
			b.set(h, thing(step+1))
			b.drop(h)
		}
		b.held()
	}
}

func TestManyNumbers(t *testing.T) {
	for seed := range 12 {
		walk(t, 1+seed%3, 1500, 3+seed*2, uint64(seed), func(n int) int { return n })
	}
}

func TestManyStrings(t *testing.T) {
	for seed := range 6 {
		walk(t, 1+seed%3, 1000, 2+seed*3, uint64(100+seed), strconv.Itoa)
	}
}

func TestManyStructs(t *testing.T) {
	for seed := range 6 {
		walk(t, 1+seed%3, 1000, 1+seed*4, uint64(200+seed), func(n int) beast {
			return beast{strconv.Itoa(n), n % 5, [2]bool{n%2 == 0, n%3 == 0}}
		})
	}
}

func TestManyOfNoKind(t *testing.T) {
	for _, kind := range noKind {
		walk(t, kind, 100, 5, 9, func(n int) uint8 { return uint8(n) })
	}
}

func TestAllOrdersOfDrops(t *testing.T) {
	orders := func(n int) [][]int {
		l := [][]int{{}}
		for v := range n {
			var more [][]int
			for _, o := range l {
				for at := range len(o) + 1 {
					more = append(more, slices.Insert(slices.Clone(o), at, v))
				}
			}
			l = more
		}
		return l
	}
	for _, o := range orders(5) {
		for dropped := range 6 {
			b := newBoth[int](t, 2)
			for n := range 5 {
				b.add(n)
			}
			for _, slot := range o[:dropped] {
				b.drop(number(2, slot, 0))
			}
			b.held()
			for n := range 7 {
				b.add(10 + n)
			}
			b.held()
		}
	}
}

// P13.1, P13.2: things of other kinds

func TestThingsThatArentCompared(t *testing.T) {
	lists := table.New[[]int](1)
	h := lists.Add([]int{1, 2})
	if l, is := lists.Get(h); !slices.Equal(l, []int{1, 2}) || !is {
		t.Error(l, is)
	}
	if !lists.Set(h, nil) || !lists.Drop(h) {
		t.Error("lists")
	}
	if l, is := lists.Get(h); l != nil || is {
		t.Error(l, is)
	}
	calls := table.New[func() int](2)
	g := calls.Add(func() int { return 7 })
	if f, is := calls.Get(g); !is || f() != 7 {
		t.Error(is)
	}
	if f, is := calls.Get(g + 1); f != nil || is {
		t.Error(is)
	}
	maps := table.New[map[string]int](3)
	k := maps.Add(map[string]int{"a": 1})
	if m, is := maps.Get(k); m["a"] != 1 || !is {
		t.Error(m, is)
	}
}

func TestThingsThatAreErrors(t *testing.T) {
	x := table.New[error](1)
	none, some := x.Add(nil), x.Add(strconv.ErrRange)
	if e, is := x.Get(none); e != nil || !is {
		t.Error(e, is)
	}
	if e, is := x.Get(some); e != strconv.ErrRange || !is {
		t.Error(e, is)
	}
	if !x.Drop(some) {
		t.Error("drop")
	}
	if e, is := x.Get(some); e != nil || is {
		t.Error(e, is)
	}
}

func TestThingsThatArePointers(t *testing.T) {
	x := table.New[*beast](2)
	cow := &beast{name: "cow"}
	h := x.Add(cow)
	if p, is := x.Get(h); p != cow || !is {
		t.Error(p, is)
	}
	if !x.Drop(h) {
		t.Error("drop")
	}
	if p, is := x.Get(h); p != nil || is {
		t.Error(p, is)
	}
	if h = x.Add(nil); h != number(2, 0, 1) {
		t.Error(h)
	}
	if p, is := x.Get(h); p != nil || !is {
		t.Error(p, is)
	}
}

func TestThingsThatAreTables(t *testing.T) {
	x := table.New[*table.Table[int]](1)
	h := x.Add(table.New[int](2))
	inner, _ := x.Get(h)
	g := inner.Add(5)
	again, _ := x.Get(h)
	if v, is := again.Get(g); v != 5 || !is || x.Len() != 1 || again.Len() != 1 {
		t.Error(v, is)
	}
}

func TestThingsWithoutBytes(t *testing.T) {
	b := newBoth[struct{}](t, 3)
	first := b.add(struct{}{})
	second := b.add(struct{}{})
	b.drop(first)
	b.set(second, struct{}{})
	b.held()
	if h := b.add(struct{}{}); h != number(3, 0, 1) {
		t.Error(h)
	}
}

// P13.3

// holdNil holds all calls of a nil Table.
func holdNil[T comparable](t *testing.T, v T) {
	t.Helper()
	var x *table.Table[T]
	var none T
	for _, h := range []uint64{0, 1, least - 1, least, number(1, 0, 0), number(2, 0, 0), number(3, 0, 0), number(2, 5, 1), top} {
		if got, is := x.Get(h); got != none || is {
			t.Error(h, got, is)
		}
		if x.Set(h, v) || x.Drop(h) {
			t.Error(h)
		}
	}
	if h := x.Add(v); h != 0 || x.Len() != 0 || len(x.Handles()) != 0 {
		t.Error(h, x.Len(), x.Handles())
	}
}

func TestNil(t *testing.T) {
	holdNil(t, 5)
	holdNil(t, "a")
	holdNil(t, beast{name: "cow"})
	holdNil(t, [3]float64{1, 2, 3})
}

// P13.4

func TestAHandleDroppedIsNeverLiveAgain(t *testing.T) {
	for kind := 1; kind <= 3; kind++ {
		b, next := newBoth[int](t, kind), chance(uint64(kind))
		was := map[uint64]bool{}
		var dropped []uint64
		for step := range 600 {
			if h := b.add(step); was[h] {
				t.Fatal("told twice", h)
			} else {
				was[h] = true
			}
			for range next(3) {
				if live := b.p.handles(); len(live) > 0 {
					h := live[next(len(live))]
					b.drop(h)
					dropped = append(dropped, h)
				}
			}
			for _, h := range dropped {
				if v, is := b.x.Get(h); v != 0 || is {
					t.Fatal("live again", h)
				}
			}
		}
		b.dead(9, dropped...)
	}
}

func TestTheGenerationsOfSlotsAreApart(t *testing.T) {
	b := newBoth[int](t, 1)
	for n := range 3 {
		b.add(n)
	}
	for range 5 {
		b.drop(b.p.handles()[1])
		b.add(7)
	}
	b.drop(number(1, 2, 0))
	if h := b.add(8); h != number(1, 2, 1) {
		t.Error(h)
	}
	if l := b.x.Handles(); !slices.Equal(l, []uint64{number(1, 0, 0), number(1, 1, 5), number(1, 2, 1)}) {
		t.Error(l)
	}
}

func TestTwiceTheSame(t *testing.T) {
	var first []uint64
	for round := range 3 {
		x := table.New[int](2)
		a, b := x.Add(1), x.Add(2)
		x.Drop(a)
		l := append(x.Handles(), a, b, x.Add(3), x.Add(4))
		l = append(l, x.Handles()...)
		if round == 0 {
			first = l
		}
		if !slices.Equal(l, first) {
			t.Error(round, l)
		}
		if !slices.Equal(x.Handles(), x.Handles()) {
			t.Error(round)
		}
	}
}

// The signatures, of which the compiler tells.
var (
	_ func(int) *table.Table[string]                    = table.New[string]
	_ func(*table.Table[string], string) uint64         = (*table.Table[string]).Add
	_ func(*table.Table[string], uint64) (string, bool) = (*table.Table[string]).Get
	_ func(*table.Table[string], uint64, string) bool   = (*table.Table[string]).Set
	_ func(*table.Table[string], uint64) bool           = (*table.Table[string]).Drop
	_ func(*table.Table[string]) int                    = (*table.Table[string]).Len
	_ func(*table.Table[string]) []uint64               = (*table.Table[string]).Handles
)
