package card_test

import (
	"math"
	"slices"
	"testing"

	"roadbook/api"
	"roadbook/card"
)

const (
	most, least = math.MaxInt, math.MinInt
	top         = 1 << 40
)

func num(i int) api.Expr { return api.Expr{Op: api.Const, V: api.Val{N: i}} }

func col(i int) api.Expr { return api.Expr{Op: api.Col, Col: i} }

func of(op int, l ...api.Expr) api.Expr { return api.Expr{Op: op, L: l} }

func same(a, b int) api.Expr { return of(api.Same, col(a), col(b)) }

func below(a, b int) api.Expr { return of(api.Below, col(a), col(b)) }

// all is an All of these columns, of which there are at most 4.
func all(l ...int) api.Expr {
	e := of(api.All)
	for _, i := range l {
		e.L = append(e.L, col(i))
	}
	return e
}

// times is e so many times.
func times(n int, e api.Expr) []api.Expr { return slices.Repeat([]api.Expr{e}, n) }

// within is one that has itself for a part.
func within() api.Expr {
	e := of(api.None, api.Expr{})
	e.L[0] = e
	return e
}

// tables are four: of 100, 10, 1000000 and 1 rows.
func tables() api.Cat {
	return api.Cat{T: []api.Def{{Cols: 4, Rows: 100}, {Cols: 2, Rows: 10}, {Cols: 1, Rows: 1000000}, {Cols: 1, Rows: 1}}}
}

// rows is a catalog of one table, of two columns, with so many rows.
func rows(n int) api.Cat { return api.Cat{T: []api.Def{{Cols: 2, Rows: n}}} }

// told asks for the first column of these occurrences, of which these expressions are true.
func told(occ []int, l ...api.Expr) api.Query {
	return api.Query{Occ: occ, P: l, By: -1, Out: []int{0}, Ord: -1}
}

// groups is q in groups by its first column, with sums, in order.
func groups(q api.Query) api.Query {
	q.By, q.Sums, q.Out, q.Ord = 0, []int{0, 0}, nil, 0
	return q
}

// wrongQueries may not be, by tables.
func wrongQueries() []api.Query {
	one, two := []int{0}, []int{0, 1}
	return []api.Query{
		{}, told(nil), told([]int{}), told([]int{0, 0, 0, 0, 0}), told(make([]int, 1000)), told([]int{4}), told([]int{-1}), told([]int{0, most}), told([]int{0, least}), told([]int{0, 1, 2, 4}),
		told(one, times(7, below(0, 1))...), told(two, times(7, same(0, 4))...), told(one, times(1000, col(0))...),
		told(one, col(4)), told(two, same(0, 6)), told(two, same(0, 8)), told([]int{3}, col(1)), told(two, same(0, 16)), told(two, same(0, 4), col(-1)),
		told(two, num(1)), told(two, api.Expr{}), told(two, of(api.All)), told(two, same(0, 4), of(api.Same, num(1), num(1))),
		told(two, of(api.Same, col(0))), told(two, of(api.Ops, col(0))), told(two, of(api.Same, col(0), col(4), col(5))), told(two, within()), told(two, all(0, 1, 2, 3, 4)),
		{Occ: one, By: -1, Ord: -1}, {Occ: one, By: -1, Out: []int{4}, Ord: -1}, {Occ: one, By: -1, Out: []int{0, 0}, Ord: -1}, {Occ: one, By: -1, Out: []int{0}, Ord: 1}, {Occ: []int{3}, By: -1, Out: []int{0}, Ord: -2},
		{Occ: one, By: -1, Sums: []int{0}, Out: []int{0}, Ord: -1}, {Occ: one, By: 4, Ord: -1}, {Occ: one, By: -2, Ord: -1}, {Occ: one, By: 0, Out: []int{0}, Ord: -1}, {Occ: one, By: 0, Sums: []int{0, 0, 0, 0, 0}, Ord: -1}, {Occ: one, By: 0, Sums: []int{4}, Ord: -1}, {Occ: one, By: 0, Ord: 1},
	}
}

// wrongCats may not be.
func wrongCats() []api.Cat {
	return []api.Cat{
		{}, {T: []api.Def{}}, {T: []api.Def{{}}}, {T: []api.Def{{Cols: 1}}}, {T: []api.Def{{Rows: 1}}}, {T: []api.Def{{Cols: 5, Rows: 1}}}, {T: []api.Def{{Cols: 2, Rows: 1000001}}}, {T: []api.Def{{Cols: 2, Rows: -1}}},
		{T: slices.Repeat([]api.Def{{Cols: 2, Rows: 100}}, 5)}, {T: []api.Def{{Cols: 2, Rows: 100}, {}}}, {T: []api.Def{{Cols: most, Rows: most}, {Cols: least, Rows: least}}},
	}
}

// P9.1
func TestTimes(t *testing.T) {
	for i, x := range []struct {
		l    []int
		want int
	}{
		{nil, 1}, {[]int{}, 1}, {[]int{0}, 0}, {[]int{1}, 1}, {[]int{7}, 7}, {[]int{6, 7}, 42}, {[]int{2, 3, 5, 7}, 210}, {[]int{1, 1, 1, 9, 1}, 9}, {[]int{100, 10}, 1000},
		{[]int{-1}, 0}, {[]int{least}, 0}, {[]int{5, -1}, 0}, {[]int{-1, 5}, 0}, {[]int{-2, -3}, 0}, {[]int{-1, -1, 4}, 0}, {[]int{4, least, least}, 0}, {[]int{least, -1}, 0}, {[]int{most, least}, 0},
		{[]int{5, 0, 7}, 0}, {[]int{0, 7}, 0}, {[]int{7, 0}, 0}, {[]int{0, 0}, 0}, {[]int{0, -1}, 0},
		{[]int{top - 1}, top - 1}, {[]int{top}, top}, {[]int{top + 1}, top}, {[]int{most}, top}, {[]int{1, most}, top}, {[]int{most, 1}, top},
		{[]int{1<<20 - 1, 1<<20 + 1}, top - 1}, {[]int{1 << 20, 1 << 20}, top}, {[]int{257, 4278255361}, top}, {[]int{4278255361, 257}, top}, {[]int{1 << 20, 1<<20 + 1}, top}, {[]int{1 << 39, 2}, top}, {[]int{1<<39 + 1, 2}, top}, {[]int{2, 1<<39 - 1}, top - 2}, {[]int{3, top / 3}, top - 1},
		{times2(39), 1 << 39}, {times2(40), top}, {times2(41), top}, {times2(63), top}, {times2(64), top}, {times2(1000), top},
		{[]int{1 << 32, 1 << 32}, top}, {[]int{1 << 62, 4}, top}, {[]int{1 << 62, 2}, top}, {[]int{1 << 62, 3}, top}, {[]int{most, most}, top}, {[]int{most, 2}, top}, {[]int{top, top, top}, top}, {[]int{top, 1<<24 + 1}, top},
		{[]int{1 << 62, 4, 0}, 0}, {[]int{top, 0}, 0}, {[]int{top + 1, 0}, 0}, {[]int{most, most, 0}, 0}, {[]int{most, 0, most}, 0}, {[]int{0, most, most}, 0}, {[]int{most, most, -1}, 0}, {[]int{most, -1, most}, 0}, {append(times2(1000), 0), 0}, {append(times2(1000), 1, least), 0},
		{slices.Repeat([]int{1}, 1<<20), 1}, {slices.Repeat([]int{most}, 1<<20), top},
	} {
		if got := card.Times(x.l); got != x.want {
			t.Errorf("%d: %d, not %d", i, got, x.want)
		}
	}
}

// times2 is 2 so many times.
func times2(n int) []int { return slices.Repeat([]int{2}, n) }

// P9.2
func TestBase(t *testing.T) {
	four := told([]int{2, 0, 1, 0})
	for i, x := range []struct {
		q    api.Query
		occ  int
		want int
	}{
		{four, 0, 1000000}, {four, 1, 100}, {four, 2, 10}, {four, 3, 100}, {four, 4, 0}, {four, 5, 0}, {four, 64, 0}, {four, most, 0}, {four, -1, 0}, {four, -4, 0}, {four, least, 0},
		{told([]int{1}), 0, 10}, {told([]int{1}), 1, 0}, {told([]int{1}), 2, 0}, {told([]int{1}), 3, 0}, {told([]int{1}), -1, 0}, {told([]int{3, 1}), 0, 1}, {told([]int{3, 1}), 1, 10}, {told([]int{3, 1}), 2, 0},
		{told([]int{0, 1}, same(0, 4), below(0, 1)), 0, 100}, {groups(told([]int{0, 1}, col(4))), 1, 10}, {groups(told([]int{0, 1}, col(4))), 2, 0},
	} {
		if got := card.Base(tables(), x.q, x.occ); got != x.want {
			t.Errorf("%d: %d, not %d", i, got, x.want)
		}
	}
}

// P9.2: a pair, others, some of each, and what is own of the set alone.
func TestRowsOfSets(t *testing.T) {
	three := told([]int{0, 1, 2}, same(0, 4), below(0, 1), same(0, 1), same(5, 8), all(0, 4, 8), of(api.Same, col(4), num(3)))
	for i, x := range []struct {
		q    api.Query
		set  int
		want int
	}{
		{told([]int{0, 1, 2}), 0, 1}, {told([]int{0, 1, 2}), 1, 100}, {told([]int{0, 1, 2}), 2, 10}, {told([]int{0, 1, 2}), 4, 1000000}, {told([]int{0, 1, 2}), 3, 1000}, {told([]int{0, 1, 2}), 5, 100000000}, {told([]int{0, 1, 2}), 7, 1000000000}, {told([]int{0, 1, 2}), 8, 1}, {told([]int{0, 1, 2}), 15, 1000000000},
		{told([]int{0, 0, 3, 3}), 15, 10000}, {told([]int{0, 0, 3, 3}), 12, 1}, {told([]int{1}), 1, 10}, {told([]int{1}), 2, 1}, {told([]int{1}), 14, 1}, {told([]int{1}), 15, 10},
		{three, 0, 1}, {three, 1, 3}, {three, 2, 3}, {three, 3, 1}, {three, 4, 1000000}, {three, 5, 3333333}, {three, 6, 333333}, {three, 7, 37037},
		{three, 8, 1}, {three, 9, 3}, {three, 12, 1000000}, {three, 15, 37037}, {three, 16, 1}, {three, 17, 3}, {three, 23, 37037}, {three, 1 << 62, 1}, {three, most, 37037},
		{three, -1, 37037}, {three, -2, 333333}, {three, -7, 3}, {three, -16, 1}, {three, least, 1}, {three, least + 4, 1000000},
	} {
		if got := card.Rows(tables(), x.q, x.set); got != x.want {
			t.Errorf("%d: set %d: %d, not %d", i, x.set, got, x.want)
		}
	}
}

// P9.2: each expression divides by what it is, and all of them by the product of these.
func TestRowsOfExpressions(t *testing.T) {
	for i, x := range []struct {
		l    []api.Expr
		want int
	}{
		{nil, 1000}, {[]api.Expr{same(0, 4)}, 100}, {[]api.Expr{same(4, 0)}, 100}, {[]api.Expr{same(0, 1)}, 100}, {[]api.Expr{same(5, 4)}, 100},
		{[]api.Expr{same(0, 0)}, 333}, {[]api.Expr{col(0)}, 333}, {[]api.Expr{below(0, 4)}, 333}, {[]api.Expr{of(api.Same, col(0), num(5))}, 333}, {[]api.Expr{of(api.Same, num(5), col(4))}, 333}, {[]api.Expr{of(api.All, same(0, 4))}, 333}, {[]api.Expr{of(api.None, of(api.None, same(0, 4)))}, 333},
		{[]api.Expr{of(api.Same, of(api.Plus, col(0), num(0)), col(4))}, 333}, {[]api.Expr{of(api.All, same(0, 4), same(1, 5))}, 333}, {[]api.Expr{all(0, 1, 4, 5)}, 333}, {[]api.Expr{of(api.Any, col(5))}, 333}, {[]api.Expr{of(api.Minus, col(0), col(4))}, 333},
		{times(2, same(0, 4)), 10}, {times(3, same(0, 4)), 1}, {[]api.Expr{same(0, 4), same(4, 0)}, 10}, {[]api.Expr{same(0, 4), same(1, 5)}, 10}, {[]api.Expr{same(0, 1), same(4, 5), same(0, 4)}, 1},
		{times(2, col(0)), 111}, {times(3, col(0)), 37}, {times(4, col(0)), 12}, {times(5, col(0)), 4}, {times(6, col(0)), 1}, {[]api.Expr{col(0), col(1), col(4)}, 37},
		{[]api.Expr{same(0, 4), col(0)}, 33}, {[]api.Expr{col(0), same(0, 4)}, 33}, {[]api.Expr{col(0), same(0, 4), col(4)}, 11}, {[]api.Expr{same(0, 4), col(0), same(1, 4), col(4)}, 1}, {[]api.Expr{same(0, 4), col(0), col(0), col(0)}, 3},
		{times(4, same(0, 4)), 1}, {times(6, same(0, 4)), 1}, {append(times(3, col(0)), times(3, same(0, 1))...), 1},
	} {
		for j, q := range []api.Query{told([]int{0, 1}, x.l...), groups(told([]int{0, 1}, x.l...))} {
			if got := card.Rows(tables(), q, 3); got != x.want {
				t.Errorf("%d, %d: %d, not %d", i, j, got, x.want)
			}
		}
	}
}

// P9.2: the product is no more than 2^40 ahead of the division, and what is told at least 1 behind it.
func TestRowsAtEdges(t *testing.T) {
	two, four := []int{0, 0}, []int{0, 0, 0, 0}
	for i, x := range []struct {
		rows int
		q    api.Query
		set  int
		want int
	}{
		{1000000, told(four), 1, 1000000}, {1000000, told(four), 3, 1000000000000}, {1000000, told(four), 7, top}, {1000000, told(four), 15, top}, {1 << 10, told(four), 15, top}, {1<<10 + 1, told(four), 15, top}, {1<<10 - 1, told(four), 15, 1095222947841},
		{1000000, told(four, same(0, 4)), 15, 109951162777}, {1 << 10, told(four, same(0, 4)), 15, 109951162777}, {1<<10 + 1, told(four, same(0, 4)), 15, 109951162777}, {1000000, told(four, same(0, 4)), 3, 100000000000}, {1000000, told(four, same(0, 4)), 12, 1000000000000},
		{1000000, told(four, col(0)), 15, 366503875925}, {1000000, told(four, times(6, same(0, 4))...), 15, 1099511}, {1000000, told(four, times(6, below(0, 4))...), 15, 1508246402}, {1000000, told(four, append(times(3, col(8)), times(3, same(12, 0))...)...), 15, 40722652},
		{1, told(four), 15, 1}, {1, told(two, same(0, 4)), 3, 1}, {1, told(two, times(6, same(0, 4))...), 3, 1}, {9, told([]int{0}, same(0, 1)), 1, 1}, {10, told([]int{0}, same(0, 1)), 1, 1}, {19, told([]int{0}, same(0, 1)), 1, 1}, {20, told([]int{0}, same(0, 1)), 1, 2},
		{2, told([]int{0}, col(0)), 1, 1}, {3, told([]int{0}, col(0)), 1, 1}, {5, told([]int{0}, col(0)), 1, 1}, {6, told([]int{0}, col(0)), 1, 2}, {1000000, told([]int{0}, times(6, same(0, 1))...), 1, 1}, {999999, told([]int{0}, times(5, same(0, 1))...), 1, 9}, {1000000, told([]int{0}, times(5, same(0, 1))...), 1, 10},
		{5, told(two, col(0)), 3, 8}, {5, told(two, col(0), col(4)), 3, 2}, {2, told(two, col(0)), 3, 1}, {4, told(four, col(0), col(4), col(8), col(12)), 15, 3}, {2, told(two, same(0, 1)), 2, 2},
	} {
		if got := card.Rows(rows(x.rows), x.q, x.set); got != x.want {
			t.Errorf("%d: %d, not %d", i, got, x.want)
		}
	}
}

// P9.3
func TestGroups(t *testing.T) {
	one, two, four := []int{0}, []int{0, 0}, []int{0, 0, 0, 0}
	for i, x := range []struct {
		rows int
		q    api.Query
		want int
	}{
		{1, told(one), 1}, {2, told(one), 1}, {4, told(one), 1}, {5, told(one), 1}, {9, told(one), 1}, {10, told(one), 2}, {14, told(one), 2}, {15, told(one), 3}, {100, told(one), 20}, {1000000, told(one), 200000},
		{3, told(two), 1}, {4, told(two), 3}, {1, told(four), 1}, {2, told(four), 3}, {10, told(four), 2000}, {1000000, told(two), 200000000000}, {1000000, told(four), 219902325555}, {1 << 10, told(four), 219902325555},
		{100, told(one, same(0, 1)), 2}, {100, told(one, col(0)), 6}, {100, told(one, col(0), col(1)), 2}, {49, told(one, same(0, 1)), 1}, {1, told(one, times(6, same(0, 1))...), 1}, {9, told(two, below(0, 4)), 5}, {1000000, told(four, same(0, 4)), 21990232555}, {1000000, told(four, times(6, same(0, 12))...), 219902},
	} {
		for j, q := range []api.Query{x.q, groups(x.q)} {
			if got := card.Groups(rows(x.rows), q); got != x.want {
				t.Errorf("%d, %d: %d, not %d", i, j, got, x.want)
			}
		}
	}
	if got := card.Groups(tables(), groups(told([]int{0, 1, 2}, same(0, 4), all(0, 4, 8)))); got != 6666666 {
		t.Errorf("of three tables: %d", got)
	}
}

// P9.2: the chapter's example.
func TestExample(t *testing.T) {
	if got := card.Rows(tables(), told([]int{0, 1}, same(0, 4)), 3); got != 100 {
		t.Errorf("100 and 10 rows, with a pair: %d", got)
	}
}

// P9.2, P9.3: of what may not be there are no rows, and no groups.
func TestWhatMayNotBe(t *testing.T) {
	tellsNothing := func(c api.Cat, q api.Query, what string, i int) {
		t.Helper()
		for _, n := range []int{0, 1, 2, 3, 15, 16, -1, most, least} {
			if b, r := card.Base(c, q, n), card.Rows(c, q, n); b != 0 || r != 0 {
				t.Errorf("%s %d, %d: %d and %d, not 0", what, i, n, b, r)
			}
		}
		if g := card.Groups(c, q); g != 0 {
			t.Errorf("%s %d: %d groups", what, i, g)
		}
	}
	for i, q := range wrongQueries() {
		tellsNothing(tables(), q, "query", i)
	}
	for i, c := range wrongCats() {
		tellsNothing(c, told([]int{0}), "catalog", i)
		tellsNothing(c, groups(told([]int{0, 0}, same(0, 4))), "catalog", i)
	}
	tellsNothing(rows(7), told([]int{0, 1}), "a table that there is not", 0)
	tellsNothing(rows(7), told([]int{0}, col(2)), "a column that there is not", 0)
}
