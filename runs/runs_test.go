package runs_test

import (
	"math"
	"math/big"
	"slices"
	"testing"

	"steading/api"
	"steading/runs"
)

// list is runs by pairs: where each begins, and how many pages it has.
func list(pairs ...int) []api.Run {
	var l []api.Run
	for i := 0; i < len(pairs); i += 2 {
		l = append(l, api.Run{Page: pairs[i], Pages: pairs[i+1]})
	}
	return l
}

// most is the greatest number of pages that lists are promised for.
const most = 1<<31 - 1

// set is pages, one bit each.
type set uint64

// pagesOf is some pages from one on, as far as there are bits.
func pagesOf(page, n int) set {
	var s set
	for i := range n {
		s |= 1 << (page + i)
	}
	return s
}

// runsOf is the list that is right of just these pages, found page by page.
func runsOf(s set) []api.Run {
	var l []api.Run
	for page := range 64 {
		if s>>page&1 == 0 {
			continue
		}
		if page > 0 && s>>(page-1)&1 == 1 {
			l[len(l)-1].Pages++
		} else {
			l = append(l, api.Run{Page: page, Pages: 1})
		}
	}
	return l
}

// setOf is the pages of runs.
func setOf(l []api.Run) set {
	var s set
	for _, r := range l {
		s |= pagesOf(r.Page, r.Pages)
	}
	return s
}

// small is how many pages the tests of all lists have.
const small = 9

// all are all lists that are right for so few pages: one for each set of them.
func all() [][]api.Run {
	var ls [][]api.Run
	for s := range set(1) << small {
		ls = append(ls, runsOf(s))
	}
	return ls
}

// numbers are some around 0, and the greatest and the least ones, and their neighbours.
func numbers() []int {
	l := []int{math.MaxInt, math.MaxInt - 1, math.MaxInt - 2, math.MaxInt - 5, 1 << 62, 1<<62 + 1, 1 << 32, 1 << 31, most, most - 1}
	for _, n := range slices.Clone(l) {
		l = append(l, -n)
	}
	for n := -3; n <= 12; n++ {
		l = append(l, n)
	}
	return append(l, math.MinInt, math.MinInt+2, math.MinInt+3)
}

func number(n int) *big.Int { return big.NewInt(int64(n)) }

// endOf is where a run ends, also where that is too great for an int.
func endOf(r api.Run) *big.Int { return new(big.Int).Add(number(r.Page), number(r.Pages)) }

// right is what Right should tell.
func right(l []api.Run, pages int) bool {
	is := true
	for i, r := range l {
		is = is && r.Page >= 0 && r.Pages >= 1 && endOf(r).Cmp(number(pages)) <= 0
		if i > 0 {
			is = is && number(r.Page).Cmp(endOf(l[i-1])) > 0
		}
	}
	return is
}

// met tells what Has should: do these pages, and those of a run, meet?
func met(l []api.Run, page, n int) bool {
	asked := api.Run{Page: page, Pages: n}
	return n >= 1 && slices.ContainsFunc(l, func(r api.Run) bool {
		return number(page).Cmp(endOf(r)) < 0 && number(r.Page).Cmp(endOf(asked)) < 0
	})
}

// may tells whether pages may be given back.
func may(l []api.Run, pages, page, n int) bool {
	return page >= 0 && n >= 1 && endOf(api.Run{Page: page, Pages: n}).Cmp(number(pages)) <= 0 && !met(l, page, n)
}

// took fails, unless a Take answers so.
func took(t *testing.T, l []api.Run, n, page int, left []api.Run, is bool) {
	t.Helper()
	gotPage, got, gotIs := runs.Take(l, n)
	if gotPage != page || !slices.Equal(got, left) || gotIs != is {
		t.Errorf("Take(%v, %d) = %d, %v, %v, want %d, %v, %v", l, n, gotPage, got, gotIs, page, left, is)
	}
}

// gave fails, unless a Give answers so.
func gave(t *testing.T, l []api.Run, pages, page, n int, want []api.Run, is bool) {
	t.Helper()
	got, gotIs := runs.Give(l, pages, page, n)
	if !slices.Equal(got, want) || gotIs != is {
		t.Errorf("Give(%v, %d, %d, %d) = %v, %v, want %v, %v", l, pages, page, n, got, gotIs, want, is)
	}
}

// P5.1

func TestRightOfKnown(t *testing.T) {
	for _, x := range []struct {
		l     []api.Run
		pages int
		want  bool
	}{
		{nil, 0, true}, {nil, 5, true}, {nil, -1, true}, {nil, math.MinInt, true}, {nil, math.MaxInt, true}, {[]api.Run{}, 0, true}, {[]api.Run{}, -1, true},
		// Up to pages, and one page beyond.
		{list(0, 1), 1, true}, {list(0, 1), 0, false}, {list(0, 5), 5, true}, {list(0, 5), 4, false}, {list(3, 2), 5, true}, {list(3, 2), 4, false}, {list(5, 1), 5, false},
		{list(0, 1, 3, 2), 5, true}, {list(0, 1, 3, 2), 4, false}, {list(0, 1, 3, 2), 6, true},
		// One page between, none, and one that both have.
		{list(0, 2, 3, 1), 9, true}, {list(0, 2, 2, 1), 9, false}, {list(0, 2, 1, 1), 9, false}, {list(0, 1, 2, 1, 4, 1), 5, true}, {list(0, 1, 2, 2, 4, 1), 5, false}, {list(0, 1, 2, 3, 4, 1), 5, false},
		// Not rising, and the same one twice.
		{list(5, 1, 0, 2), 9, false}, {list(3, 1, 3, 1), 9, false}, {list(0, 1, 5, 1, 3, 1), 9, false},
		// No pages, or pages below 0, in each place.
		{list(0, 0), 9, false}, {list(4, 0), 9, false}, {list(9, 0), 9, false}, {list(4, -1), 9, false}, {list(0, 1, 4, 0), 9, false}, {list(0, 1, 4, -1), 9, false}, {list(0, 0, 4, 1), 9, false}, {list(0, 1, 4, 0, 6, 1), 9, false},
		{list(-1, 1), 9, false}, {list(-1, 2), 9, false}, {list(-1, 2, 4, 1), 9, false}, {list(-5, 1, 4, 1), 9, false}, {list(4, 1, -1, 1), 9, false},
		// Pages that are below 0 themselves.
		{list(0, 1), -1, false}, {list(0, 1), math.MinInt, false}, {list(-2, 1), -1, false}, {list(-2, 1), 0, false}, {list(-5, 9), math.MinInt, false},
		// Sums that go round.
		{list(1, math.MaxInt), math.MaxInt, false}, {list(math.MaxInt, 1), math.MaxInt, false}, {list(math.MaxInt, math.MaxInt), 9, false}, {list(math.MaxInt, math.MaxInt), math.MaxInt, false},
		{list(0, math.MaxInt), math.MaxInt, true}, {list(math.MaxInt-1, 1), math.MaxInt, true}, {list(0, math.MaxInt), math.MaxInt - 1, false},
		{list(1, math.MaxInt, 3, 1), 9, false}, {list(0, 1, 2, math.MaxInt), 9, false}, {list(0, math.MaxInt, 3, 1), math.MaxInt, false},
		{list(math.MinInt, 1), 9, false}, {list(0, math.MinInt), 9, false}, {list(math.MinInt, math.MinInt), 9, false}, {list(math.MinInt, math.MinInt), math.MaxInt, false},
		{list(0, 1, most-1, 1), most, true}, {list(0, 1, most-1, 2), most, false}, {list(0, most), most, true}, {list(0, most+1), most, false},
	} {
		if got := runs.Right(x.l, x.pages); got != x.want {
			t.Errorf("Right(%v, %d) = %v, want %v", x.l, x.pages, got, x.want)
		}
	}
}

func TestRightOfListsOfAnyKind(t *testing.T) {
	pages := []int{math.MinInt, -1, 0, 1, 2, 4, 7, most, math.MaxInt - 1, math.MaxInt}
	held := func(l []api.Run) {
		for _, p := range pages {
			if got, want := runs.Right(l, p), right(l, p); got != want {
				t.Fatalf("Right(%v, %d) = %v, want %v", l, p, got, want)
			}
		}
	}
	for _, page := range numbers() {
		for _, n := range numbers() {
			held(list(page, n))
			held(list(0, 1, page, n))
			held(list(page, n, 5, 1))
			held(list(page, n, page, n))
			held(list(0, 1, 3, 1, page, n))
		}
	}
	few := []int{math.MinInt, -1, 0, 1, 2, 3, 4, math.MaxInt}
	for i := range 1 << 12 {
		held(list(few[i%8], few[i/8%8], few[i/64%8], few[i/512%8]))
	}
}

func TestRightOfAllSets(t *testing.T) {
	for _, l := range all() {
		for pages := -1; pages <= small+1; pages++ {
			want := pages >= small || setOf(l)>>max(pages, 0) == 0
			if got := runs.Right(l, pages); got != want {
				t.Errorf("Right(%v, %d) = %v, want %v", l, pages, got, want)
			}
		}
		// A run that is cut in two adjacent ones is right no more.
		for i, r := range l {
			for n := 1; n < r.Pages; n++ {
				cut := slices.Insert(slices.Clone(l), i, api.Run{Page: r.Page, Pages: n})
				cut[i+1] = api.Run{Page: r.Page + n, Pages: r.Pages - n}
				if runs.Right(cut, small) {
					t.Errorf("Right(%v, %d)", cut, small)
				}
			}
		}
	}
}

func TestTotalIsTheSum(t *testing.T) {
	for _, x := range []struct {
		l    []api.Run
		want int
	}{{nil, 0}, {[]api.Run{}, 0}, {list(0, 1), 1}, {list(7, 4), 4}, {list(0, 2, 5, 1), 3}, {list(2, 3, 8, 1, 12, 3), 7}, {list(0, most), most}, {list(0, 1<<30, 1<<30+1, 1<<30-2), most - 1}} {
		if got := runs.Total(x.l); got != x.want {
			t.Errorf("Total(%v) = %d, want %d", x.l, got, x.want)
		}
	}
	for _, l := range all() {
		want := 0
		for page := range small {
			want += int(setOf(l) >> page & 1)
		}
		if got := runs.Total(l); got != want {
			t.Errorf("Total(%v) = %d, want %d", l, got, want)
		}
	}
}

// P5.2

func TestBestOfKnown(t *testing.T) {
	for _, x := range []struct {
		l       []api.Run
		n, want int
	}{
		{nil, 1, -1}, {[]api.Run{}, 1, -1}, {nil, 0, -1}, {nil, -1, -1}, {nil, math.MaxInt, -1},
		{list(0, 2, 5, 1), 1, 1}, {list(0, 2, 5, 1), 2, 0}, {list(0, 2, 5, 1), 3, -1},
		{list(0, 1, 5, 2), 1, 0}, {list(0, 1, 5, 2), 2, 1}, {list(0, 5), 1, 0}, {list(0, 5), 5, 0}, {list(0, 5), 6, -1},
		// Of the same length the first one, wherever a longer or a shorter one stands.
		{list(0, 2, 3, 2), 1, 0}, {list(0, 2, 3, 2), 2, 0}, {list(0, 2, 3, 2), 3, -1}, {list(0, 5, 6, 2, 9, 2), 2, 1}, {list(0, 1, 6, 2, 9, 2), 2, 1}, {list(0, 2, 3, 5, 9, 2), 2, 0}, {list(0, 1, 2, 1, 4, 1), 1, 0},
		// The first one that is long enough isn't the best; nor is the last one.
		{list(0, 9, 10, 4, 20, 3, 30, 6), 3, 2}, {list(0, 9, 10, 4, 20, 3, 30, 6), 4, 1}, {list(0, 9, 10, 4, 20, 3, 30, 6), 5, 3}, {list(0, 9, 10, 4, 20, 3, 30, 6), 7, 0}, {list(0, 9, 10, 4, 20, 3, 30, 6), 9, 0}, {list(0, 9, 10, 4, 20, 3, 30, 6), 10, -1},
		{list(0, 2, 5, 1), 0, -1}, {list(0, 2, 5, 1), -1, -1}, {list(0, 2, 5, 1), math.MinInt, -1}, {list(0, 2, 5, 1), math.MaxInt, -1}, {list(0, 2, 5, 1), 1 << 32, -1}, {list(0, 2, 5, 1), 1<<32 + 1, -1},
		{list(0, most), most, 0}, {list(0, most), most + 1, -1}, {list(0, 1, 2, most-2), 2, 1},
	} {
		if got := runs.Best(x.l, x.n); got != x.want {
			t.Errorf("Best(%v, %d) = %d, want %d", x.l, x.n, got, x.want)
		}
	}
}

// best is what Best should tell: it goes through the lengths, from the least one on.
func best(l []api.Run, n int) int {
	for length := n; n >= 1 && length <= small; length++ {
		if i := slices.IndexFunc(l, func(r api.Run) bool { return r.Pages == length }); i >= 0 {
			return i
		}
	}
	return -1
}

func TestBestOfAllSets(t *testing.T) {
	for _, l := range all() {
		for _, n := range numbers() {
			if got, want := runs.Best(l, n), best(l, n); got != want {
				t.Errorf("Best(%v, %d) = %d, want %d", l, n, got, want)
			}
		}
	}
}

func TestTakeOfKnown(t *testing.T) {
	// Whole, and one page left.
	took(t, list(0, 2, 5, 1), 2, 0, list(5, 1), true)
	took(t, list(0, 2, 5, 1), 1, 5, list(0, 2), true)
	took(t, list(0, 3, 5, 1), 2, 0, list(2, 1, 5, 1), true)
	took(t, list(4, 3), 3, 4, nil, true)
	took(t, list(4, 3), 2, 4, list(6, 1), true)
	took(t, list(4, 3), 1, 4, list(5, 2), true)
	took(t, list(4, 3), 4, 0, nil, false)
	took(t, list(0, 1), 1, 0, nil, true)
	took(t, list(0, 4, 5, 3, 9, 4), 3, 5, list(0, 4, 9, 4), true)
	took(t, list(0, 4, 5, 3, 9, 4), 2, 5, list(0, 4, 7, 1, 9, 4), true)
	took(t, list(0, 4, 5, 3, 9, 4), 4, 0, list(5, 3, 9, 4), true)
	took(t, list(0, 5, 7, 3, 19, 4), 4, 19, list(0, 5, 7, 3), true)
	took(t, list(0, most), most, 0, nil, true)
	took(t, list(0, most), most-1, 0, list(most-1, 1), true)
	took(t, list(0, 1, most-1, 1), 1, 0, list(most-1, 1), true)
}

func TestTakeOfNone(t *testing.T) {
	for _, l := range [][]api.Run{nil, {}, list(0, 2, 5, 1), list(3, 1), list(0, most)} {
		for _, n := range []int{0, -1, -2, math.MinInt, math.MinInt + 1, most + 1, 1 << 32, 1<<32 + 1, math.MaxInt} {
			took(t, l, n, 0, nil, false)
		}
	}
	took(t, nil, 1, 0, nil, false)
	took(t, []api.Run{}, 1, 0, nil, false)
}

func TestTakeOfAllSets(t *testing.T) {
	for _, l := range all() {
		for _, n := range numbers() {
			i := best(l, n)
			if i < 0 {
				took(t, l, n, 0, nil, false)
				continue
			}
			took(t, l, n, l[i].Page, runsOf(setOf(l)&^pagesOf(l[i].Page, n)), true)
		}
	}
}

// P5.3

func TestHasOfKnown(t *testing.T) {
	l := list(2, 3, 8, 1, 12, 3)
	for _, x := range []struct {
		page, n int
		want    bool
	}{
		{0, 2, false}, {0, 3, true}, {1, 1, false}, {2, 1, true}, {3, 1, true}, {4, 1, true}, {4, 9, true}, {5, 1, false}, {5, 3, false}, {5, 4, true}, {7, 1, false}, {8, 1, true}, {9, 1, false}, {9, 3, false}, {9, 4, true},
		{14, 1, true}, {15, 1, false}, {0, 20, true}, {2, 3, true}, {1, 5, true}, {15, math.MaxInt, false}, {14, math.MaxInt, true}, {0, math.MaxInt, true}, {5, math.MaxInt, true},
		// Below 0 no page is a run's, but those above may be.
		{-1, 1, false}, {-1, 3, false}, {-1, 4, true}, {-5, 7, false}, {-5, 8, true}, {-1, math.MaxInt, true}, {math.MinInt, math.MaxInt, false}, {math.MinInt + 3, math.MaxInt, false}, {math.MinInt + 4, math.MaxInt, true}, {math.MinInt, 1, false}, {-math.MaxInt, math.MaxInt, false},
		// Very great ones, whose sums go round.
		{math.MaxInt, 1, false}, {math.MaxInt, math.MaxInt, false}, {math.MaxInt - 1, 5, false}, {1 << 62, 1 << 62, false}, {1 << 32, 1, false}, {1<<32 + 2, 1, false},
		{2, 0, false}, {3, 0, false}, {3, -1, false}, {9, -1, false}, {9, -5, false}, {3, math.MinInt, false}, {math.MaxInt, math.MinInt, false}, {-1, 0, false}, {math.MinInt, math.MinInt, false},
	} {
		if got := runs.Has(l, x.page, x.n); got != x.want {
			t.Errorf("Has(%v, %d, %d) = %v, want %v", l, x.page, x.n, got, x.want)
		}
	}
	for _, none := range [][]api.Run{nil, {}} {
		for _, page := range numbers() {
			for _, n := range numbers() {
				if runs.Has(none, page, n) {
					t.Errorf("no runs have one of %d pages from %d on", n, page)
				}
			}
		}
	}
}

func TestHasOfAllSets(t *testing.T) {
	for _, l := range all() {
		s := setOf(l)
		for page := range small + 2 {
			for n := range small + 3 {
				if got, want := runs.Has(l, page, n), s&pagesOf(page, n) != 0; got != want {
					t.Fatalf("Has(%v, %d, %d) = %v, want %v", l, page, n, got, want)
				}
			}
		}
	}
}

// great are lists whose pages go up to the greatest numbers that are promised, and some others.
func great() [][]api.Run {
	return [][]api.Run{nil, list(0, 1), list(5, 2), list(0, most), list(1, most-1), list(most-1, 1), list(0, 1, most-1, 1), list(2, 3, 8, 1, 12, 3), list(0, 1, 2, most-4, most-1, 1)}
}

func TestHasOfGreatNumbers(t *testing.T) {
	for _, l := range great() {
		for _, page := range numbers() {
			for _, n := range numbers() {
				if got, want := runs.Has(l, page, n), met(l, page, n); got != want {
					t.Errorf("Has(%v, %d, %d) = %v, want %v", l, page, n, got, want)
				}
			}
		}
	}
}

func TestGiveOfKnown(t *testing.T) {
	l := list(2, 3, 8, 1, 12, 3)
	// It joins no run, the one ahead, the one behind, both.
	gave(t, l, 20, 0, 1, list(0, 1, 2, 3, 8, 1, 12, 3), true)
	gave(t, l, 20, 6, 1, list(2, 3, 6, 1, 8, 1, 12, 3), true)
	gave(t, l, 20, 16, 4, list(2, 3, 8, 1, 12, 3, 16, 4), true)
	gave(t, l, 20, 5, 1, list(2, 4, 8, 1, 12, 3), true)
	gave(t, l, 20, 9, 2, list(2, 3, 8, 3, 12, 3), true)
	gave(t, l, 20, 7, 1, list(2, 3, 7, 2, 12, 3), true)
	gave(t, l, 20, 10, 2, list(2, 3, 8, 1, 10, 5), true)
	gave(t, l, 20, 5, 3, list(2, 7, 12, 3), true)
	gave(t, l, 20, 9, 3, list(2, 3, 8, 7), true)
	gave(t, list(0, 2, 5, 1), 9, 3, 2, list(0, 2, 3, 3), true)
	// At 0 and at the end.
	gave(t, l, 20, 0, 2, list(0, 5, 8, 1, 12, 3), true)
	gave(t, l, 20, 1, 1, list(1, 4, 8, 1, 12, 3), true)
	gave(t, l, 20, 15, 5, list(2, 3, 8, 1, 12, 8), true)
	gave(t, l, 20, 19, 1, list(2, 3, 8, 1, 12, 3, 19, 1), true)
	gave(t, list(1, 3), 4, 0, 1, list(0, 4), true)
	gave(t, list(0, 3), 4, 3, 1, list(0, 4), true)
	gave(t, list(0, 1, 3, 1), 4, 1, 2, list(0, 4), true)
	// To no runs at all.
	for _, none := range [][]api.Run{nil, {}} {
		gave(t, none, 4, 0, 4, list(0, 4), true)
		gave(t, none, 4, 0, 1, list(0, 1), true)
		gave(t, none, 4, 3, 1, list(3, 1), true)
		gave(t, none, 4, 0, 5, nil, false)
		gave(t, none, 4, 4, 1, nil, false)
		gave(t, none, 0, 0, 1, nil, false)
		gave(t, none, 0, 0, 0, nil, false)
	}
}

func TestGiveOfWhatMayNotBe(t *testing.T) {
	l := list(2, 3, 8, 1, 12, 3)
	for _, x := range [][3]int{
		// Beyond the end, by a page and by many.
		{20, 15, 6}, {20, 19, 2}, {20, 20, 1}, {20, 21, 1}, {20, 20, 0}, {20, 0, 21}, {0, 0, 1}, {-1, 0, 1}, {1, 0, 2}, {15, 15, 1}, {-1, -1, 1}, {-1, -2, 1},
		// Free already, wholly, at either end, within, around.
		{20, 2, 3}, {20, 3, 1}, {20, 8, 1}, {20, 12, 3}, {20, 2, 1}, {20, 4, 1}, {20, 1, 2}, {20, 4, 2}, {20, 7, 2}, {20, 8, 2}, {20, 1, 5}, {20, 7, 3}, {20, 5, 8}, {20, 0, 20}, {20, 14, 6},
		// No pages, and those below 0.
		{20, 0, 0}, {20, 6, 0}, {20, 6, -1}, {20, 1, -1}, {20, 6, math.MinInt}, {20, -1, 1}, {20, -1, 2}, {20, -5, 5}, {20, -5, 6}, {20, math.MinInt, 1}, {20, math.MinInt, math.MinInt}, {20, -1, math.MaxInt},
		// Very great ones.
		{20, 15, math.MaxInt}, {20, math.MaxInt, 1}, {20, math.MaxInt, math.MaxInt}, {20, 1 << 62, 1 << 62}, {20, 1<<32 + 6, 1}, {20, 6, 1<<32 + 1}, {math.MaxInt, math.MaxInt, 1}, {math.MaxInt, 16, math.MaxInt}, {math.MaxInt, math.MaxInt - 1, 2}, {math.MinInt, 16, 1}, {math.MinInt, 16, math.MaxInt}, {math.MinInt, math.MaxInt, math.MaxInt}, {math.MinInt, 0, 1}, {math.MinInt, 1, 1},
	} {
		gave(t, l, x[0], x[1], x[2], nil, false)
	}
}

func TestGiveOfAllSets(t *testing.T) {
	for _, l := range all() {
		s := setOf(l)
		for page := -1; page <= small+1; page++ {
			for n := -1; n <= small+1; n++ {
				for _, pages := range []int{small, small + 1, small - 1} {
					if page < 0 || n < 1 || page+n > pages || s&pagesOf(page, n) != 0 {
						gave(t, l, pages, page, n, nil, false)
						continue
					}
					gave(t, l, pages, page, n, runsOf(s|pagesOf(page, n)), true)
				}
			}
		}
	}
}

func TestGiveOfGreatNumbers(t *testing.T) {
	for _, l := range great() {
		for _, pages := range []int{math.MinInt, -1, 0, 20, most, 1 << 32, math.MaxInt} {
			for _, page := range numbers() {
				for _, n := range numbers() {
					got, is := runs.Give(l, pages, page, n)
					if want := may(l, pages, page, n); is != want {
						t.Fatalf("Give(%v, %d, %d, %d): %v, want %v", l, pages, page, n, is, want)
					}
					if !is && len(got) != 0 {
						t.Fatalf("Give(%v, %d, %d, %d) = %v, false", l, pages, page, n, got)
					}
					if is && (!runs.Right(got, max(pages, most)) || runs.Total(got) != runs.Total(l)+n || !runs.Has(got, page, 1) || !runs.Has(got, page+n-1, 1)) {
						t.Fatalf("Give(%v, %d, %d, %d) = %v", l, pages, page, n, got)
					}
				}
			}
		}
	}
	gave(t, list(0, 1, most-1, 1), most, 1, most-2, list(0, most), true)
	gave(t, nil, math.MaxInt, 0, math.MaxInt, list(0, math.MaxInt), true)
	gave(t, nil, math.MaxInt, math.MaxInt-1, 1, list(math.MaxInt-1, 1), true)
	gave(t, list(0, 1), math.MaxInt, 1, math.MaxInt-1, list(0, math.MaxInt), true)
}

// P5.4

func TestWhatWasTakenCanBeGivenBack(t *testing.T) {
	for _, l := range append(all(), great()...) {
		for _, n := range numbers() {
			page, left, is := runs.Take(l, n)
			if !is {
				continue
			}
			if !runs.Right(left, most) || runs.Total(left) != runs.Total(l)-n || runs.Has(left, page, n) {
				t.Errorf("Take(%v, %d) = %d, %v", l, n, page, left)
			}
			gave(t, left, most, page, n, l, true)
			gave(t, l, most, page, n, nil, false)
		}
	}
}

func TestWhatWasTakenIsGivenBackInAnyOrder(t *testing.T) {
	const pages = 60
	seed := uint64(5)
	next := func(below int) int {
		seed = seed*6364136223846793005 + 1442695040888963407
		return int(seed >> 33 % uint64(below))
	}
	l := list(0, pages)
	free := pagesOf(0, pages)
	var taken []api.Run
	for i := range 20000 {
		// Now and then more is given back than taken, so that the list is short and long by turns.
		if next(10) < 3+i/500%5 && len(taken) > 0 {
			k := next(len(taken))
			r := taken[k]
			taken = slices.Delete(taken, k, k+1)
			free |= pagesOf(r.Page, r.Pages)
			l, _ = runs.Give(l, pages, r.Page, r.Pages)
		} else if page, left, is := runs.Take(l, 1+next(7)); is {
			r := api.Run{Page: page, Pages: runs.Total(l) - runs.Total(left)}
			if free&pagesOf(r.Page, r.Pages) != pagesOf(r.Page, r.Pages) {
				t.Fatalf("call %d: %v is taken twice", i, r)
			}
			taken = append(taken, r)
			free &^= pagesOf(r.Page, r.Pages)
			l = left
		}
		if !slices.Equal(l, runsOf(free)) || !runs.Right(l, pages) {
			t.Fatalf("call %d: %v, want %v", i, l, runsOf(free))
		}
	}
	for _, r := range taken {
		l, _ = runs.Give(l, pages, r.Page, r.Pages)
	}
	if !slices.Equal(l, list(0, pages)) {
		t.Errorf("all is given back: %v", l)
	}
}

// Lists that are handed in, and those that are answered.

// roomy is a list with room behind it, of which the bytes there are seen too.
func roomy(l []api.Run) (handed, whole []api.Run) {
	whole = append(slices.Clone(l), list(77, 77, 78, 78, 79, 79)...)
	return whole[:len(l)], whole
}

func TestListsThatAreHandedInStay(t *testing.T) {
	for _, l := range all() {
		handed, whole := roomy(l)
		kept := slices.Clone(whole)
		runs.Right(handed, small)
		runs.Total(handed)
		for n := range small + 2 {
			runs.Best(handed, n)
			runs.Take(handed, n)
			for page := range small {
				runs.Has(handed, page, n)
				runs.Give(handed, small, page, n)
			}
		}
		if !slices.Equal(whole, kept) {
			t.Fatalf("%v was handed in, and is %v", kept, whole)
		}
	}
}

// apart fails, if a change of what is answered is seen in what was handed in, or the other way round.
func apart(t *testing.T, l []api.Run, call func(l []api.Run) []api.Run) {
	t.Helper()
	handed, whole := roomy(l)
	kept := slices.Clone(whole)
	answer := call(handed)
	want := slices.Clone(answer)
	for i := range answer[:cap(answer)] {
		answer[:cap(answer)][i] = api.Run{Page: 99, Pages: 99}
	}
	if !slices.Equal(whole, kept) {
		t.Fatalf("%v shares memory with what is answered", kept)
	}
	answer = call(handed)
	for i := range whole {
		whole[i] = api.Run{Page: 98, Pages: 98}
	}
	if !slices.Equal(answer, want) {
		t.Fatalf("%v is answered, and is %v when what was handed in is changed", want, answer)
	}
}

func TestListsThatAreAnsweredAreNew(t *testing.T) {
	for _, l := range all() {
		for n := 1; n <= small; n++ {
			apart(t, l, func(l []api.Run) []api.Run {
				_, left, _ := runs.Take(l, n)
				return left
			})
			for page := range small {
				apart(t, l, func(l []api.Run) []api.Run {
					given, _ := runs.Give(l, small, page, n)
					return given
				})
			}
		}
	}
}

func TestNoListMakesACallPanic(t *testing.T) {
	// What is answered of lists that aren't right is free: here it only has to be answered.
	var ls [][]api.Run
	for _, page := range numbers() {
		for _, n := range numbers() {
			ls = append(ls, list(page, n), list(3, 2, page, n), list(page, n, 1, 1), list(page, n, page, n, 0, 0))
		}
	}
	few := []int{math.MinInt, -1, 0, 1, 2, 5, math.MaxInt}
	for _, l := range ls {
		runs.Total(l)
		for _, n := range few {
			runs.Best(l, n)
			runs.Take(l, n)
			for _, page := range few {
				runs.Has(l, page, n)
				runs.Give(l, 9, page, n)
				runs.Give(l, math.MaxInt, page, n)
			}
		}
	}
}
