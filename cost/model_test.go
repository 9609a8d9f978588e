package cost_test

import (
	"math/big"
	"slices"
	"testing"

	"roadbook/cost"
)

// edges are numbers about each at which something turns, rising.
func edges() []int {
	l := []int{least, least + 1, -top - 1, -top, -card - 1, -card, -3, -2, -1}
	for k := range 63 {
		l = append(l, 1<<k-1, 1<<k, 1<<k+1)
	}
	l = append(l, 5, 6, 10, 1000000, 3<<38, 3<<48, most-1, most)
	slices.Sort(l)
	return slices.Compact(l)
}

// held is a number, of any length, from 0 to a bound.
func held(n *big.Int, bound int64) *big.Int {
	if n.Sign() < 0 {
		return new(big.Int)
	}
	if top := big.NewInt(bound); n.Cmp(top) > 0 {
		return top
	}
	return n
}

// counted is a number of rows, as the words say that it counts.
func counted(n int) *big.Int { return held(big.NewInt(int64(n)), card) }

// told is a cost, as the words say that it is told.
func told(n *big.Int) int { return int(held(n, top).Int64()) }

// sum is what the words say of costs together.
func sum(l ...int) int {
	n := new(big.Int)
	for _, x := range l {
		if x > 0 {
			n.Add(n, big.NewInt(int64(x)))
		}
	}
	return told(n)
}

// long is how many bits n has: the least k for which it is below 2 to the k.
func long(n *big.Int) int64 {
	k, above := int64(0), big.NewInt(1)
	for n.Cmp(above) >= 0 {
		above.Add(above, above)
		k++
	}
	return k
}

// together are a rows and b rows, each so often.
func together(a, often, b, more int) int {
	n := new(big.Int).Mul(counted(a), big.NewInt(int64(often)))
	return told(n.Add(n, new(big.Int).Mul(counted(b), big.NewInt(int64(more)))))
}

// P10.1, P10.2: each number at an edge.
func TestOfOneNumberByModel(t *testing.T) {
	for _, n := range edges() {
		bits := told(new(big.Int).Mul(counted(n), big.NewInt(long(counted(n)))))
		for i, x := range []struct{ got, want int }{
			{cost.Scan(n), together(n, 1, 0, 0)}, {cost.Sort(n), bits}, {cost.Group(n, false), together(n, 1, 0, 0)}, {cost.Group(n, true), together(n, 2, 0, 0)}, {cost.Add(n), sum(n)},
		} {
			if x.got != x.want {
				t.Errorf("%d, of %d: %d, not %d", i, n, x.got, x.want)
			}
		}
	}
}

// P10.1: each two numbers at edges.
func TestOfTwoNumbersByModel(t *testing.T) {
	for _, a := range edges() {
		for _, b := range edges() {
			for i, x := range []struct{ got, want int }{
				{cost.Nest(a, b), told(new(big.Int).Mul(counted(a), counted(b)))}, {cost.Hash(a, b), together(a, 1, b, 2)}, {cost.Merge(a, b), together(a, 1, b, 1)}, {cost.Add(a, b), sum(a, b)},
			} {
				if x.got != x.want {
					t.Errorf("%d, of %d and %d: %d, not %d", i, a, b, x.got, x.want)
				}
			}
		}
	}
}

// P10.1: of each number, and of those that come to about 2^50 with it.
func TestNestAboutTheTop(t *testing.T) {
	for n := 1; n <= card; n += n/9 + 1 {
		for by := top/n - 2; by <= top/n+2; by++ {
			if got, want := cost.Nest(n, by), told(new(big.Int).Mul(counted(n), counted(by))); got != want {
				t.Fatalf("%d and %d: %d, not %d", n, by, got, want)
			}
		}
	}
}

// P10.2: each of the first numbers.
func TestSortOfFew(t *testing.T) {
	bits, above := 0, 1
	for n := range 1 << 16 {
		if n == above {
			bits, above = bits+1, 2*above
		}
		if got := cost.Sort(n); got != n*bits {
			t.Fatalf("%d: %d, not %d", n, got, n*bits)
		}
	}
}

// lists hands on all lists of at most four of some numbers at edges.
func lists(do func(l []int)) {
	some := []int{0, 1, 5, 1 << 49, 1<<49 + 1, top - 1, top, top + 1, 1 << 62, most, -1, -top, least}
	var more func(l []int)
	more = func(l []int) {
		do(l)
		if len(l) == 4 {
			return
		}
		for _, n := range some {
			more(append(slices.Clip(l), n))
		}
	}
	more(nil)
}

// P10.1: all costs together, as many as there are.
func TestAddByModel(t *testing.T) {
	lists(func(l []int) {
		if got, want := cost.Add(l...), sum(l...); got != want {
			t.Fatalf("%v: %d, not %d", l, got, want)
		}
	})
}

// orders hands on l in each order.
func orders(l []int, do func(l []int)) {
	var more func(done, left []int)
	more = func(done, left []int) {
		if len(left) == 0 {
			do(done)
		}
		for i, n := range left {
			more(append(slices.Clip(done), n), slices.Delete(slices.Clone(left), i, i+1))
		}
	}
	more(nil, l)
}

// P10.3: in another order a sum is the same, also when parts of it are added ahead.
func TestSumsHangOnNoOrder(t *testing.T) {
	lists(func(l []int) {
		first := cost.Add(l...)
		orders(l, func(other []int) {
			if got := cost.Add(other...); got != first {
				t.Fatalf("%v: %d, and %v: %d", l, first, other, got)
			}
		})
		for i := range len(l) + 1 {
			if got := cost.Add(cost.Add(l[i:]...), cost.Add(l[:i]...)); got != first {
				t.Fatalf("%v: %d, and by two parts, from %d on: %d", l, first, i, got)
			}
		}
	})
}

// costs are what all cost that has to do with a and b rows.
func costs(a, b int) []int {
	return []int{cost.Scan(a), cost.Nest(a, b), cost.Nest(b, a), cost.Hash(a, b), cost.Hash(b, a), cost.Merge(a, b), cost.Merge(b, a), cost.Sort(a), cost.Group(a, false), cost.Group(a, true), cost.Add(a, b), cost.Add(b, a), cost.Add(b, a, b)}
}

// P10.3: with more rows nothing costs less, and a sum isn't less with more in it.
func TestMoreRowsCostNoLess(t *testing.T) {
	l := edges()
	more := make([]int, len(costs(0, 0)))
	for _, b := range l {
		for i := 1; i < len(l); i++ {
			few, many := costs(l[i-1], b), costs(l[i], b)
			for j := range few {
				if many[j] < few[j] {
					t.Fatalf("%d: %d rows cost %d, %d cost %d, with %d", j, l[i-1], few[j], l[i], many[j], b)
				}
				if many[j] > few[j] {
					more[j]++
				}
			}
		}
	}
	if slices.Contains(more, 0) {
		t.Errorf("nothing ever costs more: %v", more)
	}
}

// P10.3: one row more never costs less.
func TestOneRowMoreCostsNoLess(t *testing.T) {
	last := costs(-3, 7)
	for n := -2; n < 1<<12; n++ {
		next := costs(n, 7)
		for j := range next {
			if next[j] < last[j] {
				t.Fatalf("%d: %d rows cost %d, %d cost %d", j, n-1, last[j], n, next[j])
			}
		}
		last = next
	}
}

// P10.3: with one cost more, wherever it stands, no sum is less.
func TestMoreCostsComeToNoLess(t *testing.T) {
	lists(func(l []int) {
		few := cost.Add(l...)
		for i := range len(l) + 1 {
			for _, n := range []int{least, -1, 0, 1, top, most} {
				if got := cost.Add(slices.Insert(slices.Clone(l), i, n)...); got < few {
					t.Fatalf("%v: %d, and with %d: %d", l, few, n, got)
				}
			}
		}
	})
}

// R3, R5: what is handed in stays as it was, and what is told is the same the next time.
func TestStays(t *testing.T) {
	some := []int{most, -4, 4, 0, top, least}
	was := slices.Clone(some)
	first := cost.Add(some...)
	for _, a := range edges() {
		once := costs(a, 9)
		costs(9, a)
		if again := costs(a, 9); !slices.Equal(once, again) {
			t.Errorf("%d: %v, and then %v", a, once, again)
		}
	}
	if again := cost.Add(some...); first != again || !slices.Equal(some, was) {
		t.Errorf("%v: %d, and then of %v: %d", was, first, some, again)
	}
}

// P1, R1: every call comes back, whatever it is of, and what it tells is within bounds.
func TestAnyArguments(t *testing.T) {
	for _, a := range edges() {
		for _, b := range edges() {
			for i, n := range costs(a, b) {
				if n < 0 || n > top {
					t.Fatalf("%d, of %d and %d: %d", i, a, b, n)
				}
			}
		}
	}
}
