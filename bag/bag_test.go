package bag_test

import (
	"math"
	"slices"
	"testing"

	"roadbook/api"
	"roadbook/bag"
)

const most, least = math.MaxInt, math.MinInt

var (
	null = api.Val{K: api.Null}
	bad  = api.Val{K: api.Bad}
)

func n(i int) api.Val { return api.Val{N: i} }

// row is one of numbers.
func row(l ...int) []api.Val {
	r := []api.Val{}
	for _, i := range l {
		r = append(r, n(i))
	}
	return r
}

func of(cols []int, rows ...[]api.Val) api.Bag { return api.Bag{Cols: cols, Rows: rows} }

// equal tells whether both are the same, row by row in order.
func equal(a, b api.Bag) bool {
	return slices.Equal(a.Cols, b.Cols) && slices.EqualFunc(a.Rows, b.Rows, slices.Equal[[]api.Val])
}

// copied is b in memory of its own.
func copied(b api.Bag) api.Bag {
	out := api.Bag{Cols: slices.Clone(b.Cols)}
	for _, r := range b.Rows {
		out.Rows = append(out.Rows, slices.Clone(r))
	}
	return out
}

// rowsOf is a bag of one column, with so many rows, of falling numbers.
func rowsOf(col, many int) api.Bag {
	b := api.Bag{Cols: []int{col}}
	for i := range many {
		b.Rows = append(b.Rows, row(many-i))
	}
	return b
}

func col(i int) api.Expr { return api.Expr{Op: api.Col, Col: i} }

func con(v api.Val) api.Expr { return api.Expr{V: v} }

func two(op int, a, b api.Expr) api.Expr { return api.Expr{Op: op, L: []api.Expr{a, b}} }

func three() api.Bag { return of([]int{0, 1}, row(1, 2), row(3, 4), row(1, 5)) }

func allCols() []int {
	var l []int
	for i := range 16 {
		l = append(l, 15-i)
	}
	return l
}

// right are bags that may be.
func right() []api.Bag {
	return []api.Bag{
		{}, {Cols: []int{}, Rows: [][]api.Val{}}, {Rows: [][]api.Val{nil, {}, nil}},
		of([]int{0}), of([]int{15}), of(allCols()), of(allCols(), make([]api.Val, 16)), three(),
		of([]int{3}, row(most), row(least), []api.Val{null}, []api.Val{bad}, row(0), row(0)),
		rowsOf(4, 4999), rowsOf(4, 5000), {Rows: make([][]api.Val, 5000)},
	}
}

// wrong are bags that may not be, each for one cause.
func wrong() []api.Bag {
	return []api.Bag{
		of([]int{-1}), of([]int{16}), of([]int{0, 16}), of([]int{0, -1}), of([]int{most}), of([]int{least}),
		of([]int{1, 1}), of([]int{0, 1, 2, 0}), of(append(allCols(), 3)),
		rowsOf(4, 5001), {Rows: make([][]api.Val, 5001)},
		of([]int{1}, nil), of([]int{1}, row(1, 2)), of(nil, row(1)), of([]int{1, 2}, row(1, 2), row(1)), of([]int{1, 2}, row(1, 2), row(1, 2, 3)),
		of([]int{1}, []api.Val{{K: 3}}), of([]int{1}, []api.Val{{K: -1}}), of([]int{1}, row(1), []api.Val{{K: api.Null, N: 1}}),
		of([]int{1, 2}, row(1, 2), []api.Val{n(1), {K: api.Bad, N: -1}}), of([]int{1}, []api.Val{{K: least, N: most}}),
	}
}

// P3.1
func TestMay(t *testing.T) {
	for i, b := range right() {
		if !bag.May(b) {
			t.Errorf("%d may not be", i)
		}
	}
	for i, b := range wrong() {
		if bag.May(b) {
			t.Errorf("%d may be", i)
		}
	}
}

// P3.1: each of the lists is of bags that are all the same, and none is the same as one of another list.
func TestSame(t *testing.T) {
	kinds := [][]api.Bag{
		{{}, {Cols: []int{}, Rows: [][]api.Val{}}},
		{{Rows: [][]api.Val{nil}}, {Rows: [][]api.Val{{}}}},
		{{Rows: [][]api.Val{nil, {}}}},
		{of([]int{0}), {Cols: []int{0}, Rows: [][]api.Val{}}},
		{of([]int{1})},
		{of([]int{0, 1})}, {of([]int{1, 0})},
		{three(), of([]int{0, 1}, row(1, 5), row(3, 4), row(1, 2)), of([]int{0, 1}, row(3, 4), row(1, 5), row(1, 2))},
		{of([]int{1, 0}, row(1, 2), row(3, 4), row(1, 5))},
		{of([]int{1, 0}, row(2, 1), row(4, 3), row(5, 1))},
		{of([]int{0, 1}, row(1, 2), row(3, 4))},
		{of([]int{0, 1}, row(1, 2), row(3, 4), row(1, 5), row(1, 5))},
		{of([]int{0, 1}, row(1, 2), row(3, 4), row(3, 4)), of([]int{0, 1}, row(3, 4), row(1, 2), row(3, 4))},
		{of([]int{0, 1}, row(1, 2), row(1, 2), row(3, 4)), of([]int{0, 1}, row(3, 4), row(1, 2), row(1, 2))},
		{of([]int{0}, row(0))}, {of([]int{0}, []api.Val{null})}, {of([]int{0}, []api.Val{bad})}, {of([]int{0}, row(0), row(0))},
		{of([]int{0}, []api.Val{{K: 3}})}, {of([]int{0}, []api.Val{{K: 3, N: 1}})}, {of([]int{0}, []api.Val{{K: -3}})},
		{of([]int{0}, row(12, 3))}, {of([]int{0}, row(1, 23))}, {of([]int{0}, row(123))}, {of([]int{0}, row(1, 2, 3))}, {of([]int{0}, row(-1))}, {of([]int{0}, row(1))},
		{of([]int{0}, row(1), nil), of([]int{0}, nil, row(1))}, {of([]int{0}, row(1), row(0))},
		{of([]int{16, 16, -5}, row(1), row(2, 2)), of([]int{16, 16, -5}, row(2, 2), row(1))},
		{rowsOf(4, 5000), bag.Sort(rowsOf(4, 5000), 4)}, {rowsOf(4, 5001), bag.Sort(rowsOf(4, 5001), 4)},
		{of([]int{most}, row(most), row(least)), of([]int{most}, row(least), row(most))},
	}
	for i, l := range kinds {
		for j, m := range kinds {
			for _, a := range l {
				for _, b := range m {
					if bag.Same(a, b) != (i == j) {
						t.Errorf("a bag of kind %d, one of kind %d: %v", i, j, i != j)
					}
				}
			}
		}
	}
}

// P3.2
func TestCross(t *testing.T) {
	got, ok := bag.Cross(three(), of([]int{7, 3}, row(8, 1), row(9, 2), row(8, 1)))
	want := of([]int{0, 1, 7, 3}, row(1, 2, 8, 1), row(1, 2, 9, 2), row(1, 2, 8, 1), row(3, 4, 8, 1), row(3, 4, 9, 2), row(3, 4, 8, 1), row(1, 5, 8, 1), row(1, 5, 9, 2), row(1, 5, 8, 1))
	if !ok || !equal(got, want) {
		t.Errorf("%v", got)
	}
	if got, ok := bag.Cross(of([]int{9}, []api.Val{null}), of([]int{2}, []api.Val{bad})); !ok || !equal(got, of([]int{9, 2}, []api.Val{null, bad})) {
		t.Errorf("%v", got)
	}
	if got, ok := bag.Cross(three(), of(nil, nil, nil)); !ok || !equal(got, of([]int{0, 1}, row(1, 2), row(1, 2), row(3, 4), row(3, 4), row(1, 5), row(1, 5))) {
		t.Errorf("with rows of nothing: %v", got)
	}
	for _, b := range []api.Bag{of([]int{5}), of(nil)} {
		x, ok := bag.Cross(three(), b)
		y, also := bag.Cross(b, three())
		if !ok || !also || !equal(x, of(append([]int{0, 1}, b.Cols...))) || !equal(y, of(append(slices.Clone(b.Cols), 0, 1))) {
			t.Errorf("with no rows: %v, %v", x, y)
		}
	}
	for _, much := range [][2]int{{5000, 1}, {1, 5000}, {100, 50}, {0, 5000}, {5000, 0}} {
		if got, ok := bag.Cross(rowsOf(0, much[0]), rowsOf(1, much[1])); !ok || len(got.Rows) != much[0]*much[1] || !bag.May(got) {
			t.Errorf("%v rows: %v, %d", much, ok, len(got.Rows))
		}
	}
}

// P3.2, R4
func TestCrossOfNone(t *testing.T) {
	fail := func(what string, a, b api.Bag) {
		if got, ok := bag.Cross(a, b); ok || got.Cols != nil || got.Rows != nil {
			t.Errorf("%s: %v", what, ok)
		}
	}
	for _, much := range [][2]int{{5000, 2}, {2, 2501}, {3, 1667}, {71, 71}, {5000, 5000}} {
		fail("too many rows", rowsOf(0, much[0]), rowsOf(1, much[1]))
	}
	for _, b := range wrong() {
		fail("first", b, of([]int{8}))
		fail("second", of([]int{8}), b)
		fail("both", b, b)
	}
	fail("one column in common", three(), of([]int{5, 1}))
	fail("another one", of([]int{1}, row(1)), three())
	fail("all columns in common", three(), three())
	fail("no rows, a column in common", of([]int{4}), of([]int{4}))
}

// P3.2
func TestKeep(t *testing.T) {
	below := two(api.Below, col(1), con(n(5)))
	one := two(api.Same, col(0), con(n(1)))
	mixed := of([]int{1, 0}, []api.Val{null, n(1)}, []api.Val{bad, n(1)}, row(4, 1), row(4, 1), row(7, 1), row(-2, 1), row(1, 2))
	for i, c := range []struct {
		b    api.Bag
		l    []api.Expr
		want api.Bag
	}{
		{three(), nil, three()}, {three(), []api.Expr{}, three()}, {three(), []api.Expr{{Op: api.All}}, three()},
		{three(), []api.Expr{below}, of([]int{0, 1}, row(1, 2), row(3, 4))},
		{three(), []api.Expr{one}, of([]int{0, 1}, row(1, 2), row(1, 5))},
		{three(), []api.Expr{below, one}, of([]int{0, 1}, row(1, 2))},
		{three(), []api.Expr{one, below}, of([]int{0, 1}, row(1, 2))},
		{three(), []api.Expr{{Op: api.Ops}}, of([]int{0, 1})}, // one that may not be keeps nothing
		{three(), []api.Expr{one, {Op: api.Plus}}, of([]int{0, 1})},
		{three(), []api.Expr{con(null)}, of([]int{0, 1})}, {three(), []api.Expr{con(bad)}, of([]int{0, 1})}, {three(), []api.Expr{con(n(0))}, of([]int{0, 1})},
		{three(), []api.Expr{col(9)}, of([]int{0, 1})},
		{mixed, []api.Expr{below, one}, of([]int{1, 0}, row(4, 1), row(4, 1), row(-2, 1))},
		{of([]int{3}), []api.Expr{one}, of([]int{3})}, {api.Bag{}, nil, api.Bag{}}, {api.Bag{}, []api.Expr{one}, api.Bag{}},
		// Bags that may not be: rows are kept as they are.
		{of([]int{0, 0}, row(1, 9), row(9, 1), nil, row(1), row(1, 2, 3)), []api.Expr{one}, of([]int{0, 0}, row(1, 9), row(1), row(1, 2, 3))},
		{of([]int{20}, []api.Val{{K: 5, N: 5}}), nil, of([]int{20}, []api.Val{{K: 5, N: 5}})},
	} {
		if got := bag.Keep(c.b, c.l); !equal(got, c.want) {
			t.Errorf("%d: %v, not %v", i, got, c.want)
		}
	}
	if got := bag.Keep(rowsOf(4, 5001), nil); len(got.Rows) != 5001 {
		t.Errorf("%d rows", len(got.Rows))
	}
}

// P3.3, R4
func TestPick(t *testing.T) {
	b := of([]int{4, 0, 15}, row(1, 2, 3), []api.Val{null, bad, n(6)}, row(1, 2, 3))
	for i, c := range []struct {
		cols []int
		want api.Bag
	}{
		{[]int{4, 0, 15}, b}, {[]int{15, 4}, of([]int{15, 4}, row(3, 1), []api.Val{n(6), null}, row(3, 1))},
		{[]int{0}, of([]int{0}, row(2), []api.Val{bad}, row(2))}, {nil, of(nil, nil, nil, nil)}, {[]int{}, of(nil, nil, nil, nil)},
	} {
		if got, ok := bag.Pick(b, c.cols); !ok || !equal(got, c.want) {
			t.Errorf("%d: %v, not %v", i, got, c.want)
		}
	}
	fail := func(b api.Bag, cols []int) {
		if got, ok := bag.Pick(b, cols); ok || got.Cols != nil || got.Rows != nil {
			t.Errorf("%v: %v", cols, got)
		}
	}
	for _, cols := range [][]int{{1}, {4, 1}, {-1}, {16}, {most}, {4, 4}, {0, 15, 0}, {4, 0, 15, 4}, {least}} {
		fail(b, cols)
		fail(of(b.Cols), cols)
	}
	for _, b := range wrong() {
		fail(b, nil)
		fail(b, slices.Clone(b.Cols))
		fail(b, []int{1})
	}
	fail(api.Bag{}, []int{0})
}

// orders are bags, a column, and what they are when they are put in order by it.
var orders = []struct {
	b    api.Bag
	col  int
	want api.Bag
}{
	{three(), 0, of([]int{0, 1}, row(1, 2), row(1, 5), row(3, 4))},
	{three(), 1, three()},
	{of([]int{0, 1}, row(3, 4), row(1, 2)), 5, of([]int{0, 1}, row(3, 4), row(1, 2))},                       // no such column
	{of([]int{0, 1}, row(3, 4), row(1, 2)), -1, of([]int{0, 1}, row(3, 4), row(1, 2))},                      // nor this
	{of([]int{0, 1}, row(3, 4), row(1, 2)), 16, of([]int{0, 1}, row(3, 4), row(1, 2))},                      // nor this
	{of([]int{0, 1}, row(1, 9), row(1, 3), row(1, 5)), 0, of([]int{0, 1}, row(1, 9), row(1, 3), row(1, 5))}, // all of one value
	{of([]int{7, 2}, row(1, 2), row(2, 1), row(3, 2), row(4, 1), row(5, 3)), 2, of([]int{7, 2}, row(2, 1), row(4, 1), row(1, 2), row(3, 2), row(5, 3))},
	{of([]int{0}, []api.Val{bad}, row(most), []api.Val{null}, row(least), row(0), []api.Val{null}), 0, of([]int{0}, row(least), row(0), row(most), []api.Val{null}, []api.Val{null}, []api.Val{bad})},
	// A row without a value there is as one with the number 0, and stays behind one of 0 that was ahead of it.
	{of([]int{5, 6}, row(1, 1), row(2), row(3, -1), row(4, 0), nil, []api.Val{n(5), null}), 6, of([]int{5, 6}, row(3, -1), row(2), row(4, 0), nil, row(1, 1), []api.Val{n(5), null})},
	// A value that may not be is as an error.
	{of([]int{5, 6}, []api.Val{n(1), {K: 3, N: -9}}, []api.Val{n(2), bad}, []api.Val{n(3), {K: -1}}, []api.Val{n(4), null}, []api.Val{n(5), {K: 1, N: 1}}), 6, of([]int{5, 6}, []api.Val{n(4), null}, []api.Val{n(1), {K: 3, N: -9}}, []api.Val{n(2), bad}, []api.Val{n(3), {K: -1}}, []api.Val{n(5), {K: 1, N: 1}})},
	{of([]int{20, 20}, row(2, 1), row(1, 2)), 20, of([]int{20, 20}, row(1, 2), row(2, 1))}, // the first of both places
	{api.Bag{}, 0, api.Bag{}}, {of([]int{0}), 0, of([]int{0})}, {of([]int{0}, row(1)), 0, of([]int{0}, row(1))},
	{of(nil, row(2), row(1)), 0, of(nil, row(2), row(1))},
}

// P3.3, P3.5
func TestSort(t *testing.T) {
	for i, c := range orders {
		if got := bag.Sort(c.b, c.col); !equal(got, c.want) {
			t.Errorf("%d: %v, not %v", i, got, c.want)
		}
		if got := bag.Sorted(c.b, c.col); got != equal(c.b, c.want) {
			t.Errorf("%d is sorted: %v", i, got)
		}
		if !bag.Sorted(c.want, c.col) || !bag.Same(c.b, c.want) {
			t.Errorf("%d is another bag, or not in order", i)
		}
	}
	if got := bag.Sort(rowsOf(4, 5001), 4); len(got.Rows) != 5001 || !bag.Sorted(got, 4) || bag.Sorted(rowsOf(4, 5001), 4) {
		t.Errorf("many rows")
	}
}

// P3.3: of many rows those of one value stay in the order in which they were.
func TestSortOfMany(t *testing.T) {
	b := api.Bag{Cols: []int{1, 2}}
	for i := range 5000 {
		b.Rows = append(b.Rows, row(i*7919%13, i))
	}
	got := bag.Sort(b, 1)
	for i, r := range got.Rows[1:] {
		ahead := got.Rows[i]
		if r[0].N < ahead[0].N || r[0] == ahead[0] && r[1].N < ahead[1].N {
			t.Fatalf("%v is behind %v", r, ahead)
		}
	}
	if !bag.Same(b, got) {
		t.Errorf("another bag")
	}
}

// P3.3: each step that falls is seen, wherever it is.
func TestSortedSteps(t *testing.T) {
	rising := []api.Val{n(least), n(-1), n(0), n(0), n(7), n(most), null, null, bad, bad}
	for i := range rising {
		for j := range i {
			l := slices.Clone(rising)
			l[i], l[j] = l[j], l[i]
			b := api.Bag{Cols: []int{3}}
			for _, v := range l {
				b.Rows = append(b.Rows, []api.Val{v})
			}
			if bag.Sorted(b, 3) != (rising[i] == rising[j]) || !bag.Sorted(b, 2) {
				t.Errorf("%v", l)
			}
		}
	}
}

// P3.4
func TestGroup(t *testing.T) {
	mixed := of([]int{3, 8}, []api.Val{bad, n(1)}, []api.Val{null, n(2)}, []api.Val{n(5), null}, []api.Val{null, n(3)}, []api.Val{n(5), null}, []api.Val{n(-5), bad}, []api.Val{n(-5), n(1)}, []api.Val{n(0), null}, []api.Val{n(0), n(4)})
	great := of([]int{0, 1}, row(1, most), row(2, most), row(1, 1), row(2, 1), row(2, -1), row(3, least), row(3, -1))
	for i, c := range []struct {
		b    api.Bag
		by   int
		sums []int
		want api.Bag
	}{
		{three(), 0, []int{1}, of([]int{0, 16, 17}, row(1, 2, 7), row(3, 1, 4))},
		{three(), 0, nil, of([]int{0, 16}, row(1, 2), row(3, 1))},
		{three(), 1, []int{0}, of([]int{1, 16, 17}, row(2, 1, 1), row(4, 1, 3), row(5, 1, 1))},
		{three(), 0, []int{1, 1}, of([]int{0, 16, 17, 18}, row(1, 2, 7, 7), row(3, 1, 4, 4))},
		{three(), 0, []int{0, 1, 0, 1}, of([]int{0, 16, 17, 18, 19, 20}, row(1, 2, 2, 7, 2, 7), row(3, 1, 3, 4, 3, 4))},
		{three(), 0, []int{0}, of([]int{0, 16, 17}, row(1, 2, 2), row(3, 1, 3))},
		{of([]int{0, 1}), 1, []int{0}, of([]int{1, 16, 17})},
		{of([]int{15}, row(4)), 15, []int{15}, of([]int{15, 16, 17}, row(4, 1, 4))},
		{mixed, 3, []int{8, 3}, of([]int{3, 16, 17, 18},
			[]api.Val{n(-5), n(2), bad, n(-10)}, []api.Val{n(0), n(2), n(4), n(0)}, []api.Val{n(5), n(2), null, n(10)}, []api.Val{null, n(2), n(5), null}, []api.Val{bad, n(1), n(1), bad})},
		{great, 0, []int{1}, of([]int{0, 16, 17}, []api.Val{n(1), n(2), bad}, row(2, 3, most), []api.Val{n(3), n(2), bad})},
		{rowsOf(4, 5000), 4, nil, func() api.Bag {
			b := of([]int{4, 16})
			for i := range 5000 {
				b.Rows = append(b.Rows, row(i+1, 1))
			}
			return b
		}()},
		{of([]int{4, 5}, slices.Repeat([][]api.Val{row(1, 3)}, 5000)...), 4, []int{5}, of([]int{4, 16, 17}, row(1, 5000, 15000))},
	} {
		if got, ok := bag.Group(c.b, c.by, c.sums); !ok || !equal(got, c.want) {
			t.Errorf("%d: %v, not %v", i, got, c.want)
		}
	}
	if got, _ := bag.Group(three(), 0, nil); bag.May(got) || !bag.Same(got, of([]int{0, 16}, row(3, 1), row(1, 2))) {
		t.Errorf("what is grouped may be, or is not the same as itself")
	}
}

// P3.4, R4
func TestGroupOfNone(t *testing.T) {
	fail := func(b api.Bag, by int, sums []int) {
		if got, ok := bag.Group(b, by, sums); ok || got.Cols != nil || got.Rows != nil {
			t.Errorf("by %d, %v: %v", by, sums, ok)
		}
	}
	for _, by := range []int{2, -1, 16, 15, most, least} {
		fail(three(), by, nil)
		fail(three(), 0, []int{by})
		fail(three(), 1, []int{0, 1, 0, by})
		fail(of([]int{0}), by, nil)
		fail(api.Bag{}, by, nil)
	}
	fail(three(), 0, []int{1, 1, 1, 1, 1})
	fail(of([]int{0}), 0, []int{0, 0, 0, 0, 0})
	for _, b := range wrong() {
		fail(b, 1, nil)
		for _, by := range b.Cols {
			fail(b, by, nil)
		}
	}
}
