// Package bits is arithmetic of powers of two, and of sums that don't go round.
package bits

import "steading/api"

// width is how many bits a number has: 2^width is the first one that is too great.
const width = 64

// least is the least number below width for which something holds; width, if it holds for none of them.
func least(holds func(k int) bool) int {
	for k := range width {
		if holds(k) {
			return k
		}
	}
	return width
}

// Pow tells whether a number is a power of two.
func Pow(n uint64) bool { return n != 0 && n&(n-1) == 0 }

// Log is how often two makes no more than a number; below 0: of none.
func Log(n uint64) int {
	// What is shifted out whole is below 2^k: the least such k is one above the answer, of 0 too.
	return least(func(k int) bool { return n>>k == 0 }) - 1
}

// Ceil is how often two makes a number at least.
func Ceil(n uint64) int {
	// Above 2^63 no k below width holds, and width itself is the answer.
	return least(func(k int) bool { return uint64(1)<<k >= n })
}

// Up is the least multiple of an alignment that is a number at least; false: there is none.
func Up(n, align uint64) (uint64, bool) {
	if !Pow(align) {
		return 0, false
	}
	rest := n & (align - 1)
	if rest == 0 {
		// A multiple already: adding a whole alignment would miss the least one.
		return n, true
	}
	return Add(n, align-rest)
}

// Add is a sum; false: it goes round.
func Add(a, b uint64) (uint64, bool) {
	sum := a + b
	// A sum that goes round has lost 2^64, and is less than each of its parts.
	if sum < a {
		return 0, false
	}
	return sum, true
}

// In tells whether some bytes from a place on lie within a size.
func In(at, n, size uint64) bool {
	end, ok := Add(at, n)
	return ok && end <= size
}

// Pages is how many pages bytes need.
func Pages(n uint64) uint64 {
	// Up might be too great where the number of pages isn't, so the page that is begun is counted apart.
	pages := n >> api.PageBits
	if n%api.Page != 0 {
		pages++
	}
	return pages
}
