package table

import (
	"testing"

	"steading/handle"
)

// A test within the package: 2^30 drops of one slot would take too long, so that the generation is laid near to the last one.

func TestTheGenerationBehindTheLastOne(t *testing.T) {
	const lastGen = 1<<30 - 1
	x := New[string](1)
	x.Add("a")
	x.slots[0].mark.gen = lastGen - 1
	for _, gen := range []int{lastGen - 1, lastGen, 0, 1} {
		h := handle.Pack(1, 0, gen)
		if v, is := x.Get(h); v != "a" || !is {
			t.Fatal(gen, v, is)
		}
		if l := x.Handles(); len(l) != 1 || l[0] != h || !x.Drop(h) {
			t.Fatal(gen, l)
		}
		// No number is a handle of a slot that is free, 0 as little as any other, though its generation may be 0 again.
		for _, h := range []uint64{0, 1 << 32, h, handle.Pack(1, 0, handle.Next(gen))} {
			if v, is := x.Get(h); v != "" || is || x.Set(h, "q") || x.Drop(h) {
				t.Fatal(gen, h, v, is)
			}
		}
		if l := x.Handles(); len(l) != 0 || x.Len() != 0 {
			t.Fatal(gen, l)
		}
		if h := x.Add("a"); h != handle.Pack(1, 0, handle.Next(gen)) {
			t.Fatal(gen, h)
		}
	}
}
