package query_test

import (
	"math"
	"slices"
	"testing"

	"roadbook/api"
	"roadbook/query"
)

const most, least = math.MaxInt, math.MinInt

func num(i int) api.Expr { return api.Expr{Op: api.Const, V: api.Val{N: i}} }

func col(i int) api.Expr { return api.Expr{Op: api.Col, Col: i} }

func of(op int, l ...api.Expr) api.Expr { return api.Expr{Op: op, L: l} }

func same(a, b int) api.Expr { return of(api.Same, col(a), col(b)) }

// all is an All of these columns, of which there are at most 4.
func all(l ...int) api.Expr {
	e := of(api.All)
	for _, i := range l {
		e.L = append(e.L, col(i))
	}
	return e
}

// within is one that has itself for a part.
func within() api.Expr {
	e := of(api.None, api.Expr{})
	e.L[0] = e
	return e
}

// wrongExprs are expressions that may not be, all but the last ones with columns.
func wrongExprs() []api.Expr {
	deep := col(0)
	for range 6 {
		deep = of(api.None, deep)
	}
	long := of(api.All)
	for range 4 {
		long.L = append(long.L, of(api.All, of(api.All, col(0), col(4)), col(8), col(0), col(0)))
	}
	return []api.Expr{
		of(api.Ops, col(0)), of(-1, col(0)), of(api.Same, col(0)), of(api.Same, col(0), col(4), col(8)), of(api.None, col(0), col(4)),
		of(api.Plus, col(0), col(16)), of(api.Plus, col(-1), col(4)), {Op: api.Same, Col: 1, L: []api.Expr{col(0), col(4)}},
		{Op: api.Same, V: api.Val{N: 1}, L: []api.Expr{col(0), col(4)}}, of(api.Below, col(0), api.Expr{V: api.Val{K: 3}}), all(0, 1, 2, 3, 4),
		{Op: api.Col, Col: 4, L: []api.Expr{col(0)}}, deep, of(api.Any, long, col(1), col(1)), col(16), col(-1), col(most), col(least), {Op: 12}, {V: api.Val{K: 9}}, within(),
	}
}

// bareExprs are expressions that may be, and have no column.
func bareExprs() []api.Expr {
	return []api.Expr{{}, num(5), of(api.All), of(api.Any), of(api.Same, num(1), num(1)), of(api.None, num(0)), {V: api.Val{K: api.Bad}}}
}

// tables are two: of 2 columns, and of 1.
func tables() api.Cat {
	return api.Cat{T: []api.Def{{Cols: 2, Rows: 100}, {Cols: 1, Rows: 10}}}
}

// full are four tables, of 4 columns each.
func full() api.Cat {
	return api.Cat{T: slices.Repeat([]api.Def{{Cols: 4, Rows: 1000000}}, 4)}
}

// told asks for columns of these occurrences.
func told(occ []int, out ...int) api.Query { return api.Query{Occ: occ, By: -1, Out: out, Ord: -1} }

// groups asks for groups by a column, and sums.
func groups(occ []int, by int, sums ...int) api.Query {
	return api.Query{Occ: occ, By: by, Sums: sums, Ord: -1}
}

// with is q with these expressions.
func with(q api.Query, l ...api.Expr) api.Query {
	q.P = l
	return q
}

// by is q in order by a column.
func by(q api.Query, ord int) api.Query {
	q.Ord = ord
	return q
}

// rightQueries may be, by tables: at the edges of each limit.
func rightQueries() []api.Query {
	one, four := []int{0}, []int{0, 0, 1, 0}
	return []api.Query{
		told(one, 0), told(one, 1), told(one, 1, 0), told([]int{1}, 0), told([]int{1, 0}, 0, 4, 5), told(four, 0), told([]int{1, 1, 1, 1}, 12, 8, 4, 0),
		told([]int{0, 0, 0, 0}, 0, 1, 4, 5, 8, 9, 12, 13), told(four, 13, 12, 8, 5, 4, 1, 0),
		by(told(one, 1, 0), 0), by(told(one, 1, 0), 1), by(told(four, 13, 8, 0), 8),
		groups(one, 0), groups(one, 1), groups([]int{1}, 0, 0), groups(four, 13), groups(four, 8, 13), groups(one, 0, 1, 1, 0, 1), groups(four, 0, 13, 12, 8, 5),
		by(groups(one, 0), 0), by(groups(four, 8, 1), 8),
		{Occ: one, P: []api.Expr{}, By: -1, Sums: []int{}, Out: []int{0}, Ord: -1}, {Occ: one, By: 0, Sums: []int{}, Out: []int{}, Ord: 0},
		with(told(one, 0), col(1)), with(told(four, 0), same(0, 5), all(0, 4, 8, 12), same(13, 8), same(0, 1), of(api.Below, col(8), num(5)), col(13)),
		with(groups(four, 0), slices.Repeat([]api.Expr{col(0)}, 6)...),
	}
}

// wrongQueries may not be, by tables, most of them for one cause.
func wrongQueries() []api.Query {
	one, four := []int{0}, []int{0, 0, 1, 0}
	l := []api.Query{
		{}, told(nil, 0), told([]int{}, 0), groups(nil, 0), told([]int{0, 0, 0, 0, 0}, 0), groups([]int{1, 1, 1, 1, 1}, 0), told(make([]int, 1000), 0),
		told([]int{2}, 0), told([]int{-1}, 0), told([]int{0, 2}, 0), told([]int{-1, 0}, 4), told([]int{0, 0, 0, most}, 0), told([]int{least, 0}, 4), groups([]int{0, 2}, 0),
		with(told(one, 0), slices.Repeat([]api.Expr{col(0)}, 7)...), with(groups(four, 0), slices.Repeat([]api.Expr{same(0, 4)}, 7)...),
		with(told(one, 0), make([]api.Expr, 1000)...),
		with(told(one, 0), col(2)), with(told(one, 0), col(4)), with(told(one, 0), same(0, 4)), with(told(one, 0), col(0), same(3, 0)), with(told(four, 0), col(9)), with(told(four, 0), col(14)), with(told(four, 0), all(0, 4, 8, 10)),
		told(one), told(four), told(one, 2), told(one, 4), told(one, -1), told(one, 0, 16), told(one, 0, most), told([]int{1}, 1), told(four, 0, 9),
		told([]int{0, 0, 0, 0}, 0, 1, 4, 5, 8, 9, 12, 13, 0), told(one, 0, 0), told(one, 0, 1, 0), told(four, 0, 1, 4, 5, 8, 12, 13, 13),
		by(told(one, 0), 1), by(told(four, 0, 13), 8), by(told(one, 0), -2), by(told(one, 0), 16), by(told(one, 0), least), by(told(one, 0), most),
		{Occ: one, By: -1, Sums: []int{0}, Out: []int{0}, Ord: -1}, {Occ: one, By: -1, Sums: []int{0}, Ord: -1}, {Occ: four, By: -1, Sums: []int{1, 4}, Out: []int{0}, Ord: 0},
		groups(one, -2), groups(one, 2), groups(one, 4), groups(one, 16), groups(four, 9), groups(four, 15), groups(one, most), groups(one, least),
		groups(one, 0, 0, 0, 0, 0, 0), groups(four, 0, 1, 4, 5, 8, 12), groups(one, 0, 2), groups(one, 0, 0, 4), groups(four, 0, 0, 0, 0, -1), groups(one, 0, 16), groups(one, 0, most),
		{Occ: one, By: 0, Out: []int{0}, Ord: -1}, {Occ: one, By: 0, Sums: []int{1}, Out: []int{1}, Ord: 0},
		by(groups(one, 0), 1), by(groups(one, 1), 0), by(groups(one, 0, 1), 1), by(groups(one, 1), -2), by(groups(one, 0), 16), by(groups(one, 0), least),
	}
	for _, e := range append(bareExprs(), wrongExprs()...) {
		l = append(l, with(told(four, 0), e), with(groups(four, 0), col(0), e), with(told(four, 0), e, col(0), col(4), col(8), col(12), col(0)))
	}
	return l
}

// P5.1
func TestMay(t *testing.T) {
	for i, q := range rightQueries() {
		if !query.May(tables(), q) {
			t.Errorf("%d may not be: %v", i, q)
		}
	}
	for i, q := range wrongQueries() {
		if query.May(tables(), q) {
			t.Errorf("%d may be: %v", i, q)
		}
	}
	if query.May(full(), told([]int{0, 1, 2, 3}, 0, 1, 2, 3, 4, 5, 6, 7, 8)) || !query.May(full(), told([]int{0, 1, 2, 3}, 15, 14, 13, 12, 11, 10, 9, 8)) {
		t.Errorf("of 9 columns, or of 8")
	}
}

// P5.1: what may be by one catalog may not be by others, nor by one that may not be itself.
func TestMayByCatalog(t *testing.T) {
	one, two, three := api.Def{Cols: 1, Rows: 1}, api.Def{Cols: 2, Rows: 1}, api.Def{Cols: 3, Rows: 1}
	for i, x := range []struct {
		l    []api.Def
		want bool
	}{
		{[]api.Def{two, one}, true}, {[]api.Def{three, one, one}, true}, {[]api.Def{two, one, one, one}, true}, {[]api.Def{two, three}, true},
		{[]api.Def{two}, false}, {[]api.Def{one, two}, false}, {[]api.Def{one, one}, false}, {nil, false}, {[]api.Def{two, one, one, one, one}, false},
		{[]api.Def{two, {Cols: 1}}, false}, {[]api.Def{two, {Cols: 5, Rows: 1}}, false}, {[]api.Def{two, one, {}}, false}, {[]api.Def{two, {Cols: 1, Rows: 1000001}}, false},
	} {
		for j, q := range []api.Query{told([]int{1, 0}, 0, 5), groups([]int{1, 0}, 5, 0), with(groups([]int{1, 0}, 0), same(0, 5))} {
			if got := query.May(api.Cat{T: x.l}, q); got != x.want {
				t.Errorf("%d, %d: %v", i, j, got)
			}
			if got := query.Cols(api.Cat{T: x.l}, q, 3); len(got) > 0 != x.want {
				t.Errorf("%d, %d: columns %v", i, j, got)
			}
		}
	}
}

// P5.1
func TestOf(t *testing.T) {
	for i, x := range []struct {
		e    api.Expr
		want int
	}{
		{same(0, 5), 3}, {same(5, 0), 3}, {same(1, 0), 1}, {same(12, 3), 9}, {same(7, 7), 2}, {all(0, 4, 8), 7}, {all(13, 0, 8), 13}, {all(15, 11, 7, 3), 15}, {all(4, 8), 6},
		{of(api.Below, col(8), num(5)), 4}, {of(api.Any, of(api.None, of(api.Plus, num(1), of(api.Times, col(14), col(13)))), all(2)), 9},
	} {
		if got := query.Of(x.e); got != x.want {
			t.Errorf("%d: %d, not %d", i, got, x.want)
		}
	}
	for i := range 16 {
		if got := query.Of(col(i)); got != []int{1, 2, 4, 8}[i/4] {
			t.Errorf("column %d: %d", i, got)
		}
	}
	for i, e := range append(bareExprs(), wrongExprs()...) {
		if got := query.Of(e); got != 0 {
			t.Errorf("%d: %d, not 0", i, got)
		}
	}
}

// P5.1
func TestCols(t *testing.T) {
	q := told([]int{0, 1, 0}, 0)
	for i, x := range []struct {
		set  int
		want []int
	}{
		{0, nil}, {1, []int{0, 1}}, {2, []int{4}}, {3, []int{0, 1, 4}}, {4, []int{8, 9}}, {5, []int{0, 1, 8, 9}}, {6, []int{4, 8, 9}}, {7, []int{0, 1, 4, 8, 9}},
		{8, nil}, {9, []int{0, 1}}, {15, []int{0, 1, 4, 8, 9}}, {16, nil}, {18, []int{4}}, {most, []int{0, 1, 4, 8, 9}},
		{-1, []int{0, 1, 4, 8, 9}}, {-2, []int{4, 8, 9}}, {-8, nil}, {-16, nil}, {least, nil},
	} {
		if got := query.Cols(tables(), q, x.set); !slices.Equal(got, x.want) {
			t.Errorf("%d: set %d: %v, not %v", i, x.set, got, x.want)
		}
	}
	if got := query.Cols(full(), told([]int{3, 3, 2, 0}, 0), 15); !slices.Equal(got, []int{0, 1, 2, 3, 4, 5, 6, 7, 8, 9, 10, 11, 12, 13, 14, 15}) {
		t.Errorf("all: %v", got)
	}
	for i, q := range wrongQueries() {
		for _, set := range []int{0, 1, 15, -1} {
			if got := query.Cols(tables(), q, set); len(got) > 0 {
				t.Errorf("%d may not be, but has %v", i, got)
			}
		}
	}
}

// asked is one of four occurrences, with expressions of none, one, two, three and four of them.
func asked() api.Query {
	return api.Query{P: []api.Expr{same(5, 0), col(8), all(0, 4, 8), same(1, 0), all(0, 4, 8, 12), num(1), same(8, 13), {Op: 12}, same(0, 4), all(13, 1)}}
}

// P5.2: of any query, also of one that may not be. One without columns, or that may not be, has an empty set, which is a part of each.
func TestOwn(t *testing.T) {
	for i, x := range []struct {
		set  int
		want []int
	}{
		{0, []int{5, 7}}, {1, []int{3, 5, 7}}, {2, []int{5, 7}}, {3, []int{0, 3, 5, 7, 8}}, {4, []int{1, 5, 7}}, {7, []int{0, 1, 2, 3, 5, 7, 8}}, {8, []int{5, 7}},
		{9, []int{3, 5, 7, 9}}, {12, []int{1, 5, 6, 7}}, {15, []int{0, 1, 2, 3, 4, 5, 6, 7, 8, 9}}, {16, []int{5, 7}}, {17, []int{3, 5, 7}}, {31, []int{0, 1, 2, 3, 4, 5, 6, 7, 8, 9}},
		{-1, []int{0, 1, 2, 3, 4, 5, 6, 7, 8, 9}}, {-2, []int{1, 5, 6, 7}}, {-16, []int{5, 7}}, {least, []int{5, 7}}, {most, []int{0, 1, 2, 3, 4, 5, 6, 7, 8, 9}},
	} {
		if got := query.Own(asked(), x.set); !slices.Equal(got, x.want) {
			t.Errorf("%d: set %d: %v, not %v", i, x.set, got, x.want)
		}
	}
	if got := query.Own(api.Query{}, 15); len(got) > 0 {
		t.Errorf("of no expressions: %v", got)
	}
	if got := query.Own(api.Query{P: slices.Repeat([]api.Expr{col(0), col(4)}, 50)}, 2); len(got) != 50 || got[0] != 1 || got[49] != 99 {
		t.Errorf("of a hundred: %v", got)
	}
}

// P5.2
func TestNew(t *testing.T) {
	for i, x := range []struct {
		a, b int
		want []int
	}{
		{1, 2, []int{0, 8}}, {2, 1, []int{0, 8}}, {3, 4, []int{2}}, {4, 3, []int{2}}, {2, 5, []int{0, 2, 8}}, {1, 6, []int{0, 2, 8}}, {2, 4, nil}, {1, 4, nil}, {4, 8, []int{6}},
		{7, 8, []int{4, 6, 9}}, {3, 12, []int{2, 4, 9}}, {5, 10, []int{0, 2, 4, 6, 8, 9}}, {9, 6, []int{0, 2, 4, 6, 8}}, {0, 0, nil}, {0, 15, nil}, {15, 0, nil}, {15, 15, nil}, {1, 1, nil},
		{3, 6, []int{2}}, {3, 7, nil}, {7, 14, []int{4, 9}}, {16, 3, nil}, {17, 34, []int{0, 8}}, {-1, 0, nil}, {-1, -1, nil}, {-2, 1, []int{0, 2, 4, 8, 9}}, {1, -16, nil}, {-15, 2, []int{0, 8}}, {least, most, nil},
	} {
		if got := query.New(asked(), x.a, x.b); !slices.Equal(got, x.want) {
			t.Errorf("%d: sets %d and %d: %v, not %v", i, x.a, x.b, got, x.want)
		}
	}
	if got := query.New(api.Query{}, 1, 2); len(got) > 0 {
		t.Errorf("of no expressions: %v", got)
	}
}

// P5.3: each pair by what it is of, either way round; one that is there twice is told twice.
func TestPairs(t *testing.T) {
	q := api.Query{P: []api.Expr{same(5, 0), of(api.Below, col(0), col(4)), same(1, 6), same(1, 0), same(13, 2), of(api.All, same(0, 5)), same(5, 0), same(4, 9), same(4, 4), of(api.Same, col(0), num(4)), of(api.Same, col(0), col(5), col(9)), same(16, 0)}}
	for i, x := range []struct {
		a, b int
		want [][2]int
	}{
		{1, 2, [][2]int{{0, 5}, {1, 6}, {0, 5}}}, {2, 1, [][2]int{{5, 0}, {6, 1}, {5, 0}}}, {1, 8, [][2]int{{2, 13}}}, {8, 1, [][2]int{{13, 2}}}, {2, 4, [][2]int{{4, 9}}}, {4, 2, [][2]int{{9, 4}}},
		{1, 4, nil}, {4, 8, nil}, {1, 1, nil}, {3, 3, nil}, {0, 3, nil}, {15, 15, nil}, {0, 0, nil},
		{3, 4, [][2]int{{4, 9}}}, {5, 2, [][2]int{{0, 5}, {1, 6}, {0, 5}, {9, 4}}}, {2, 5, [][2]int{{5, 0}, {6, 1}, {5, 0}, {4, 9}}}, {6, 9, [][2]int{{5, 0}, {6, 1}, {5, 0}}}, {7, 8, [][2]int{{2, 13}}}, {12, 3, [][2]int{{13, 2}, {9, 4}}},
		{3, 6, nil}, {3, 5, [][2]int{{4, 9}}}, {11, 14, nil}, {9, 3, nil}, {-1, 1, nil}, {-2, 1, [][2]int{{5, 0}, {6, 1}, {13, 2}, {5, 0}}}, {1, -2, [][2]int{{0, 5}, {1, 6}, {2, 13}, {0, 5}}}, {17, 2, [][2]int{{0, 5}, {1, 6}, {0, 5}}},
	} {
		if got := query.Pairs(q, x.a, x.b); !slices.Equal(got, x.want) {
			t.Errorf("%d: sets %d and %d: %v, not %v", i, x.a, x.b, got, x.want)
		}
	}
	if got := query.Pairs(asked(), 7, 8); !slices.Equal(got, [][2]int{{8, 13}}) {
		t.Errorf("%v", got)
	}
}

// P5.3
func TestOrders(t *testing.T) {
	for i, x := range []struct {
		q    api.Query
		want []int
	}{
		{api.Query{}, []int{-1, 0}}, {api.Query{By: -1, Ord: -1}, []int{-1}}, {api.Query{By: 15, Ord: -1}, []int{-1, 15}}, {api.Query{By: -1, Ord: 15}, []int{-1, 15}}, {api.Query{By: 7, Ord: 3}, []int{-1, 3, 7}}, {api.Query{By: 7, Ord: 7}, []int{-1, 7}},
		{api.Query{By: 16, Ord: -2}, []int{-1}}, {api.Query{By: most, Ord: least}, []int{-1}}, {api.Query{By: least, Ord: 16}, []int{-1}}, {api.Query{By: -2, Ord: most}, []int{-1}},
		{with(told(nil), same(9, 2)), []int{-1, 2, 9}}, {with(told(nil), same(1, 0)), []int{-1, 0, 1}}, {with(told(nil), same(9, 2), same(2, 4), same(9, 2)), []int{-1, 2, 4, 9}},
		{with(told(nil), same(3, 3)), []int{-1}}, {with(told(nil), col(3), of(api.None, same(0, 4)), of(api.Below, col(0), col(4)), same(0, 16), of(api.Same, col(0), num(4)), all(0, 4)), []int{-1}},
		{by(with(groups(nil, 4), same(15, 4), same(4, 0)), 4), []int{-1, 0, 4, 15}}, {by(with(told(nil, 9, 10), same(15, 4)), 9), []int{-1, 4, 9, 15}}, {told(nil, 3, 4), []int{-1}}, {groups(nil, 2, 3, 4), []int{-1, 2}},
		{with(told(nil), same(0, 1), same(2, 3), same(4, 5), same(6, 7), same(8, 9), same(10, 11), same(12, 13), same(14, 15)), []int{-1, 0, 1, 2, 3, 4, 5, 6, 7, 8, 9, 10, 11, 12, 13, 14, 15}},
	} {
		if got := query.Orders(x.q); !slices.Equal(got, x.want) {
			t.Errorf("%d: %v, not %v", i, got, x.want)
		}
	}
	for i, e := range append(bareExprs(), wrongExprs()...) {
		if got := query.Orders(with(told(nil), e)); !slices.Equal(got, []int{-1}) {
			t.Errorf("%d: %v", i, got)
		}
	}
}
