package cost_test

import (
	"math"
	"slices"
	"testing"

	"roadbook/cost"
)

const (
	most, least = math.MaxInt, math.MinInt
	card        = 1 << 40
	top         = 1 << 50
)

// many is n so often.
func many(often, n int) []int { return slices.Repeat([]int{n}, often) }

// P10.1
func TestAdd(t *testing.T) {
	for i, x := range []struct {
		l    []int
		want int
	}{
		{nil, 0}, {[]int{}, 0},
		{[]int{0}, 0}, {[]int{1}, 1}, {[]int{7}, 7}, {[]int{card}, card}, {[]int{card + 1}, card + 1}, {[]int{top - 1}, top - 1}, {[]int{top}, top}, {[]int{top + 1}, top}, {[]int{1 << 62}, top}, {[]int{most}, top},
		{[]int{-1}, 0}, {[]int{-7}, 0}, {[]int{-top}, 0}, {[]int{least + 1}, 0}, {[]int{least}, 0},
		{[]int{2, 3}, 5}, {[]int{0, 3}, 3}, {[]int{3, 0}, 3}, {[]int{1, 2, 3, 4, 5}, 15}, {[]int{100, 10, 1000}, 1110}, {[]int{0, 0, 0}, 0}, {many(1000, 3), 3000}, {many(1<<20, 1), 1 << 20},
		{[]int{2, -3, 4}, 6}, {[]int{-3, 2}, 2}, {[]int{2, -3}, 2}, {[]int{5, -5}, 5}, {[]int{-5, 5}, 5}, {[]int{-1, -1}, 0}, {[]int{-1, 0}, 0}, {[]int{0, -1}, 0}, {[]int{-1, -2, 9, -4}, 9},
		{[]int{least, 5}, 5}, {[]int{5, least}, 5}, {[]int{least, least}, 0}, {[]int{least, least, 5}, 5}, {[]int{least, -1, 5}, 5}, {[]int{5, least, -6}, 5}, {append(many(1000, -9), 4), 4},
		{[]int{top - 1, 1}, top}, {[]int{1, top - 1}, top}, {[]int{1 << 49, 1 << 49}, top}, {[]int{1 << 49, 1 << 48, 1 << 48}, top}, {[]int{top, 0}, top}, {[]int{top - 3, 1, 1, 1}, top}, {many(1024, card), top}, {many(1<<20, 1<<30), top},
		{[]int{top - 2, 1}, top - 1}, {[]int{1<<49 - 1, 1 << 49}, top - 1}, {many(1023, card), top - card}, {append(many(1023, card), card-1), top - 1},
		{[]int{top, 1}, top}, {[]int{1, top}, top}, {[]int{top - 1, 2}, top}, {[]int{1<<49 + 1, 1 << 49}, top}, {append(many(1024, card), 1), top}, {append(many(1<<20, 1<<30), 1), top}, {[]int{top, top}, top}, {many(1<<14, top), top}, {many(1<<20, top), top},
		{[]int{top, -1}, top}, {[]int{-1, top}, top}, {[]int{top + 1, -1}, top}, {[]int{top, -top}, top}, {[]int{most, least}, top}, {[]int{least, most}, top}, {[]int{most, least, least}, top}, {[]int{top - 1, -5, 1}, top}, {[]int{top - 1, -1}, top - 1}, {[]int{-5, top - 2, -5, 1, -5}, top - 1},
		{[]int{most, 1}, top}, {[]int{1, most}, top}, {[]int{most, most}, top}, {[]int{most, most, 2}, top}, {[]int{most, most, 3}, top}, {[]int{2, most, most}, top}, {[]int{1 << 62, 1 << 62}, top}, {[]int{1 << 62, 1 << 62, 1 << 62}, top}, {many(4, 1<<62), top}, {append(many(4, 1<<62), 1), top}, {many(8, 1<<62), top}, {many(1<<20, most), top},
	} {
		if got := cost.Add(x.l...); got != x.want {
			t.Errorf("%d: %d, not %d", i, got, x.want)
		}
	}
}

// P10.1
func TestScan(t *testing.T) {
	for i, x := range []struct{ n, want int }{
		{0, 0}, {1, 1}, {2, 2}, {5, 5}, {1000000, 1000000}, {card - 1, card - 1}, {card, card}, {card + 1, card}, {card + 2, card}, {top - 1, card}, {top, card}, {top + 1, card}, {1 << 62, card}, {most, card},
		{-1, 0}, {-5, 0}, {-card, 0}, {-top, 0}, {least + 1, 0}, {least, 0},
	} {
		if got := cost.Scan(x.n); got != x.want {
			t.Errorf("%d: %d, not %d", i, got, x.want)
		}
	}
}

// of is two numbers of rows, and what is wanted of them.
type of struct{ a, b, want int }

// P10.1
func TestNest(t *testing.T) {
	for i, x := range []of{
		{0, 0, 0}, {0, 1, 0}, {1, 0, 0}, {1, 1, 1}, {1, 7, 7}, {7, 1, 7}, {6, 7, 42}, {7, 6, 42}, {100, 10, 1000}, {1000000, 1000000, 1000000000000}, {0, card, 0}, {card, 0, 0}, {most, 0, 0}, {0, most, 0}, {1, card, card}, {card, 1, card}, {1, card + 1, card}, {card + 1, 1, card}, {1, most, card}, {most, 1, card}, {3, card, 3 * card}, {card, 3, 3 * card}, {3, most, 3 * card}, {most, 3, 3 * card},
		{-1, 5, 0}, {5, -1, 0}, {-1, -1, 0}, {-6, -7, 0}, {least, 5, 0}, {5, least, 0}, {least, -1, 0}, {-1, least, 0}, {least, least, 0}, {least, most, 0}, {most, least, 0}, {-1, card, 0}, {card, -1, 0}, {-card, -card, 0},
		{1 << 25, 1 << 25, top}, {1 << 25, 1<<25 - 1, top - 1<<25}, {1<<25 - 1, 1 << 25, top - 1<<25}, {1<<25 + 1, 1<<25 - 1, top - 1}, {1 << 25, 1<<25 + 1, top}, {1<<25 + 1, 1 << 25, top}, {11008541, 102275125, top}, {102275125, 11008541, top},
		{1 << 10, card, top}, {card, 1 << 10, top}, {1<<10 - 1, card, top - card}, {card, 1<<10 - 1, top - card}, {1 << 10, card - 1, top - 1<<10}, {card - 1, 1 << 10, top - 1<<10}, {1<<10 + 1, card, top}, {card, 1<<10 + 1, top}, {1 << 10, card + 1, top}, {1 << 10, most, top}, {most, 1 << 10, top}, {1<<10 - 1, most, top - card}, {1<<10 + 1, card - 1, top},
		{1 << 24, card, top}, {card, 1 << 24, top}, {1 << 32, 1 << 32, top}, {1 << 31, 1 << 32, top}, {1<<32 + 1, 1 << 32, top}, {1 << 24, card - 1, top}, {card, card, top}, {card + 1, card, top}, {card - 1, card - 1, top}, {1 << 62, 4, 4 * card}, {1 << 62, 1 << 62, top}, {most, most, top}, {card, 1<<24 + 1, top},
	} {
		if got := cost.Nest(x.a, x.b); got != x.want {
			t.Errorf("%d: %d, not %d", i, got, x.want)
		}
	}
}

// P10.1
func TestHash(t *testing.T) {
	for i, x := range []of{
		{0, 0, 0}, {1, 0, 1}, {0, 1, 2}, {1, 1, 3}, {3, 4, 11}, {4, 3, 10}, {100, 10, 120}, {10, 100, 210}, {1000000, 1, 1000002}, {1, 1000000, 2000001},
		{card, 0, card}, {0, card, 2 * card}, {card, card, 3 * card}, {card - 1, card, 3*card - 1}, {card, card - 1, 3*card - 2}, {card + 1, card, 3 * card}, {card, card + 1, 3 * card}, {card + 1, card + 1, 3 * card}, {card + 1, 1, card + 2}, {1, card + 1, 2*card + 1}, {top, 0, card}, {0, top, 2 * card}, {most, 0, card}, {0, most, 2 * card}, {0, 1 << 62, 2 * card}, {most, most, 3 * card}, {1 << 62, 1 << 62, 3 * card},
		{-1, 0, 0}, {0, -1, 0}, {-3, 4, 8}, {3, -4, 3}, {-3, -4, 0}, {8, -4, 8}, {-8, 4, 8}, {least, 4, 8}, {4, least, 4}, {least, least, 0}, {most, least, card}, {least, most, 2 * card},
	} {
		if got := cost.Hash(x.a, x.b); got != x.want {
			t.Errorf("%d: %d, not %d", i, got, x.want)
		}
	}
}

// P10.1
func TestMerge(t *testing.T) {
	for i, x := range []of{
		{0, 0, 0}, {1, 0, 1}, {0, 1, 1}, {1, 1, 2}, {3, 4, 7}, {4, 3, 7}, {100, 10, 110}, {10, 100, 110}, {1000000, 1, 1000001}, {1, 1000000, 1000001},
		{card, 0, card}, {0, card, card}, {card, card, 2 * card}, {card - 1, card, 2*card - 1}, {card, card - 1, 2*card - 1}, {card + 1, card, 2 * card}, {card, card + 1, 2 * card}, {card + 1, card + 1, 2 * card}, {card + 1, 1, card + 1}, {1, card + 1, card + 1}, {top, 0, card}, {0, top, card}, {most, 1, card + 1}, {1, most, card + 1}, {most, most, 2 * card}, {1 << 62, 1 << 62, 2 * card},
		{-1, 0, 0}, {0, -1, 0}, {-3, 4, 4}, {3, -4, 3}, {-3, -4, 0}, {4, -4, 4}, {-4, 4, 4}, {least, 4, 4}, {4, least, 4}, {least, least, 0}, {least, -1, 0}, {most, least, card}, {least, most, card},
	} {
		if got := cost.Merge(x.a, x.b); got != x.want {
			t.Errorf("%d: %d, not %d", i, got, x.want)
		}
	}
}

// P10.2: n times its bits, of a power of two, of one less, and of one more.
func TestSort(t *testing.T) {
	for i, x := range []struct{ n, want int }{
		{0, 0}, {1, 1}, {2, 4}, {3, 6}, {4, 12}, {5, 15}, {6, 18}, {7, 21}, {8, 32}, {9, 36}, {15, 60}, {16, 80}, {17, 85}, {31, 155}, {32, 192}, {100, 700}, {127, 889}, {128, 1024}, {129, 1032}, {1000, 10000}, {1023, 10230}, {1024, 11264}, {1025, 11275}, {1000000, 20000000},
		{1<<31 - 1, 31 * (1<<31 - 1)}, {1 << 31, 32 << 31}, {1<<31 + 1, 32 * (1<<31 + 1)}, {1<<32 - 1, 32 * (1<<32 - 1)}, {1 << 32, 33 << 32}, {1<<32 + 1, 33 * (1<<32 + 1)}, {1<<39 - 1, 39 * (1<<39 - 1)}, {1 << 39, 40 << 39}, {1<<39 + 1, 40 * (1<<39 + 1)},
		{card - 1, 40 * (card - 1)}, {card, 41 * card}, {card + 1, 41 * card}, {2*card - 1, 41 * card}, {2 * card, 41 * card}, {top, 41 * card}, {1 << 60, 41 * card}, {1 << 62, 41 * card}, {most, 41 * card},
		{-1, 0}, {-2, 0}, {-5, 0}, {-card, 0}, {least + 1, 0}, {least, 0},
	} {
		if got := cost.Sort(x.n); got != x.want {
			t.Errorf("%d: %d, not %d", i, got, x.want)
		}
	}
	for k := range 40 {
		if got, want := cost.Sort(1<<k), (k+1)<<k; got != want {
			t.Errorf("2 to the %d: %d, not %d", k, got, want)
		}
	}
}

// P10.2: without hash, and with it.
func TestGroup(t *testing.T) {
	for i, x := range []struct{ n, plain, hashed int }{
		{0, 0, 0}, {1, 1, 2}, {2, 2, 4}, {5, 5, 10}, {7, 7, 14}, {8, 8, 16}, {1000000, 1000000, 2000000}, {card - 1, card - 1, 2*card - 2}, {card, card, 2 * card}, {card + 1, card, 2 * card}, {2 * card, card, 2 * card}, {top, card, 2 * card}, {1 << 62, card, 2 * card}, {most, card, 2 * card},
		{-1, 0, 0}, {-5, 0, 0}, {-card, 0, 0}, {least + 1, 0, 0}, {least, 0, 0},
	} {
		if got := cost.Group(x.n, false); got != x.plain {
			t.Errorf("%d: %d, not %d", i, got, x.plain)
		}
		if got := cost.Group(x.n, true); got != x.hashed {
			t.Errorf("%d, with hash: %d, not %d", i, got, x.hashed)
		}
	}
}

// P10.1, P10.2: the document's examples.
func TestExamples(t *testing.T) {
	if got := cost.Sort(5); got != 15 {
		t.Errorf("to sort 5 rows: %d", got)
	}
	if got := cost.Add(cost.Scan(100), cost.Scan(10), cost.Nest(100, 10)); got != 1110 {
		t.Errorf("a Nest: %d", got)
	}
	if got := cost.Add(cost.Scan(100), cost.Scan(10), cost.Hash(100, 10)); got != 230 {
		t.Errorf("a Hash: %d", got)
	}
}
