package means_test

import (
	"math"
	"slices"
	"testing"

	"roadbook/api"
	"roadbook/bag"
	"roadbook/means"
	"roadbook/tree"
)

const most, least = math.MaxInt, math.MinInt

var (
	null = api.Val{K: api.Null}
	bad  = api.Val{K: api.Bad}
)

func n(i int) api.Val { return api.Val{N: i} }

func num(i int) api.Expr { return api.Expr{Op: api.Const, V: n(i)} }

func col(i int) api.Expr { return api.Expr{Op: api.Col, Col: i} }

func of(op int, l ...api.Expr) api.Expr { return api.Expr{Op: op, L: l} }

func same(a, b int) api.Expr { return of(api.Same, col(a), col(b)) }

func below(a, b api.Expr) api.Expr { return of(api.Below, a, b) }

// row is one of these numbers.
func row(l ...int) []api.Val {
	r := []api.Val{}
	for _, i := range l {
		r = append(r, n(i))
	}
	return r
}

// rows are lists of numbers as rows.
func rows(l ...[]int) [][]api.Val {
	var out [][]api.Val
	for _, x := range l {
		out = append(out, row(x...))
	}
	return out
}

// told asks for columns of these occurrences.
func told(occ []int, out ...int) api.Query { return api.Query{Occ: occ, By: -1, Out: out, Ord: -1} }

// groups asks for groups by a column, and sums.
func groups(occ []int, by int, sums ...int) api.Query {
	return api.Query{Occ: occ, By: by, Sums: sums, Ord: -1}
}

// with is q with these expressions.
func with(q api.Query, l ...api.Expr) api.Query {
	q.P = l
	return q
}

// by is q in order by a column.
func by(q api.Query, ord int) api.Query {
	q.Ord = ord
	return q
}

// like tells whether both have the same columns, and the same rows, in order.
func like(a, b api.Bag) bool {
	return slices.Equal(a.Cols, b.Cols) && slices.EqualFunc(a.Rows, b.Rows, slices.Equal[[]api.Val])
}

// isZero tells whether b has neither columns nor rows.
func isZero(b api.Bag) bool { return len(b.Cols) == 0 && len(b.Rows) == 0 }

// read is the tree of a text.
func read(t *testing.T, s string) api.Tree {
	t.Helper()
	x, ok := tree.Read(s)
	if !ok {
		t.Fatalf("%q is no tree", s)
	}
	return x
}

// tables are three: of 2 columns, of 1, and of 1.
func tables() api.Cat {
	return api.Cat{T: []api.Def{{Cols: 2, Rows: 100}, {Cols: 1, Rows: 10}, {Cols: 1, Rows: 1}}}
}

// things are rows of tables: three, two, and none.
func things() api.Data {
	return api.Data{T: [][][]api.Val{rows([]int{1, 2}, []int{3, 4}, []int{2, 1}), rows([]int{4}, []int{1}), nil}}
}

// P7.1: of one occurrence, of two and of three, in every order; what is kept, and in which order columns and rows are.
func TestRows(t *testing.T) {
	three := with(told([]int{0, 1, 0}, 0), below(col(0), num(3)), same(0, 9), of(api.Any, same(4, 1), same(4, 8), same(4, 9)), below(col(4), num(4)))
	two := with(told([]int{0, 1}, 0), same(4, 0), below(num(0), col(1)))
	for i, x := range []struct {
		q    api.Query
		s    string
		want api.Bag
	}{
		{told([]int{0}, 0), "0", api.Bag{Cols: []int{0, 1}, Rows: rows([]int{1, 2}, []int{3, 4}, []int{2, 1})}},
		{with(told([]int{0}, 0), below(col(0), num(3))), "0", api.Bag{Cols: []int{0, 1}, Rows: rows([]int{1, 2}, []int{2, 1})}},
		{with(told([]int{0}, 0), below(col(0), num(3)), below(col(1), num(2))), "0", api.Bag{Cols: []int{0, 1}, Rows: rows([]int{2, 1})}},
		{with(told([]int{0}, 0), below(col(0), num(1))), "0", api.Bag{Cols: []int{0, 1}}},
		{told([]int{2}, 0), "0", api.Bag{Cols: []int{0}}},
		{told([]int{2, 0}, 0), "(10)", api.Bag{Cols: []int{4, 5, 0}}},
		{told([]int{0, 2, 1}, 0), "(20)", api.Bag{Cols: []int{8, 0, 1}, Rows: rows([]int{4, 1, 2}, []int{4, 3, 4}, []int{4, 2, 1}, []int{1, 1, 2}, []int{1, 3, 4}, []int{1, 2, 1})}},
		{two, "0", api.Bag{Cols: []int{0, 1}, Rows: rows([]int{1, 2}, []int{3, 4}, []int{2, 1})}},
		{two, "1", api.Bag{Cols: []int{4}, Rows: rows([]int{4}, []int{1})}},
		{two, "(01)", api.Bag{Cols: []int{0, 1, 4}, Rows: rows([]int{1, 2, 1})}},
		{two, "(10)", api.Bag{Cols: []int{4, 0, 1}, Rows: rows([]int{1, 1, 2})}},
		{three, "0", api.Bag{Cols: []int{0, 1}, Rows: rows([]int{1, 2}, []int{2, 1})}},
		{three, "1", api.Bag{Cols: []int{4}, Rows: rows([]int{1})}},
		{three, "2", api.Bag{Cols: []int{8, 9}, Rows: rows([]int{1, 2}, []int{3, 4}, []int{2, 1})}},
		{three, "(01)", api.Bag{Cols: []int{0, 1, 4}, Rows: rows([]int{1, 2, 1}, []int{2, 1, 1})}},
		{three, "(02)", api.Bag{Cols: []int{0, 1, 8, 9}, Rows: rows([]int{1, 2, 2, 1}, []int{2, 1, 1, 2})}},
		{three, "(20)", api.Bag{Cols: []int{8, 9, 0, 1}, Rows: rows([]int{1, 2, 2, 1}, []int{2, 1, 1, 2})}},
		{three, "(12)", api.Bag{Cols: []int{4, 8, 9}, Rows: rows([]int{1, 1, 2}, []int{1, 3, 4}, []int{1, 2, 1})}},
		{three, "((01)2)", api.Bag{Cols: []int{0, 1, 4, 8, 9}, Rows: rows([]int{1, 2, 1, 2, 1}, []int{2, 1, 1, 1, 2})}},
		{three, "(0(12))", api.Bag{Cols: []int{0, 1, 4, 8, 9}, Rows: rows([]int{1, 2, 1, 2, 1}, []int{2, 1, 1, 1, 2})}},
		{three, "(2(10))", api.Bag{Cols: []int{8, 9, 4, 0, 1}, Rows: rows([]int{1, 2, 1, 2, 1}, []int{2, 1, 1, 1, 2})}},
		{three, "((20)1)", api.Bag{Cols: []int{8, 9, 0, 1, 4}, Rows: rows([]int{1, 2, 2, 1, 1}, []int{2, 1, 1, 2, 1})}},
	} {
		if got, ok := means.Rows(tables(), things(), x.q, read(t, x.s)); !ok || !like(got, x.want) {
			t.Errorf("%d, %s: %v %v, not %v", i, x.s, got, ok, x.want)
		}
	}
}

// wrongQueries may not be, by tables, each for one cause.
func wrongQueries() []api.Query {
	one := told([]int{0}, 0)
	within := of(api.None, api.Expr{})
	within.L[0] = within
	return []api.Query{
		{}, told(nil, 0), told([]int{0, 0, 0, 0, 0}, 0), told([]int{3}, 0), told([]int{0, -1}, 0), told([]int{0, most}, 0), told([]int{least, 0}, 4),
		with(one, num(1)), with(one, col(2)), with(one, col(4)), with(one, same(0, 4)), with(one, col(0), of(api.Ops, col(0))), with(one, within), with(one, slices.Repeat([]api.Expr{col(0)}, 7)...),
		told([]int{0}), told([]int{0}, 2), told([]int{0}, 0, 0), told([]int{0}, -1), told([]int{0}, 0, most), told([]int{0, 0, 0, 0}, 0, 1, 4, 5, 8, 9, 12, 13, 0),
		by(one, 1), by(one, -2), by(one, least), by(told([]int{0, 0}, 0, 5), 4),
		{Occ: []int{0}, By: -1, Sums: []int{1}, Out: []int{0}, Ord: -1}, {Occ: []int{0}, By: 0, Out: []int{0}, Ord: -1},
		groups([]int{0}, -2), groups([]int{0}, 2), groups([]int{0}, 4), groups([]int{0}, most), groups([]int{0}, 0, 2), groups([]int{0}, 0, 1, 1, 1, 1, 1), by(groups([]int{0}, 0, 1), 1),
	}
}

// wrongThings are rows that do not fit tables.
func wrongThings() []api.Data {
	two, one := rows([]int{1, 2}), rows([]int{4})
	return []api.Data{
		{}, {T: [][][]api.Val{two, one}}, {T: [][][]api.Val{two, one, one, one}}, {T: [][][]api.Val{one, two, one}}, {T: [][][]api.Val{two, two, one}},
		{T: [][][]api.Val{slices.Repeat(two, 9), one, one}}, {T: [][][]api.Val{two, slices.Repeat(one, 9), one}}, {T: [][][]api.Val{two, one, slices.Repeat(one, 9)}},
		{T: [][][]api.Val{append(rows([]int{1, 2}), nil), one, one}}, {T: [][][]api.Val{two, one, {{{K: 3}}}}}, {T: [][][]api.Val{{{n(1), {K: 1, N: 1}}}, one, one}}, {T: [][][]api.Val{two, one, {{{K: -1}}}}},
	}
}

// wrongCats are catalogs that may not be, but have the tables that told of occurrence 0 asks for.
func wrongCats() []api.Cat {
	two := api.Def{Cols: 2, Rows: 1}
	return []api.Cat{{}, {T: []api.Def{{}, two, two}}, {T: []api.Def{two, {Cols: 5, Rows: 1}, two}}, {T: []api.Def{two, two, {Cols: 1}}}, {T: slices.Repeat([]api.Def{two}, 5)}, {T: []api.Def{{Cols: 2, Rows: 1000001}, two, two}}, {T: []api.Def{{Cols: most, Rows: most}}}, {T: []api.Def{{Cols: least, Rows: least}}}}
}

// wrongTrees may not be.
func wrongTrees() []api.Tree {
	zero, one := api.Tree{}, api.Tree{Occ: 1}
	within := api.Tree{L: make([]api.Tree, 2)}
	within.L[0], within.L[1] = within, one
	return []api.Tree{
		{Occ: 4}, {Occ: -1}, {Occ: most}, {Occ: least}, {Occ: 64}, {L: []api.Tree{zero}}, {L: []api.Tree{zero, one, {Occ: 2}}}, {L: []api.Tree{zero, zero}}, {Occ: 1, L: []api.Tree{zero, one}},
		{L: []api.Tree{zero, {Occ: 4}}}, {L: []api.Tree{{L: []api.Tree{zero, one}}, one}}, {L: []api.Tree{zero, {L: []api.Tree{one}}}}, within,
	}
}

// P7.1: a query or a tree that may not be, rows that do not fit, and an occurrence that the query has not.
func TestRowsOfNone(t *testing.T) {
	none := func(i int, c api.Cat, d api.Data, q api.Query, x api.Tree) {
		t.Helper()
		if b, ok := means.Rows(c, d, q, x); ok || !isZero(b) {
			t.Errorf("%d: %v %v", i, b, ok)
		}
	}
	one, four := told([]int{0}, 0), told([]int{0, 1, 2, 0}, 0)
	for i, q := range wrongQueries() {
		none(i, tables(), things(), q, tree.Leaf(0))
	}
	for i, d := range wrongThings() {
		none(i, tables(), d, one, tree.Leaf(0))
		none(i, tables(), d, told([]int{1}, 0), tree.Leaf(0))
	}
	for i, c := range wrongCats() {
		d := api.Data{T: make([][][]api.Val, len(c.T))}
		none(i, c, d, one, tree.Leaf(0))
		none(i, c, things(), one, tree.Leaf(0))
	}
	for i, x := range wrongTrees() {
		none(i, tables(), things(), four, x)
	}
	// A query of so many occurrences has just these: of all trees those of them alone are told.
	for occurrences := 1; occurrences <= 4; occurrences++ {
		q := told(slices.Repeat([]int{1}, occurrences), 0)
		for set := 1; set < 16; set++ {
			for i, x := range tree.All(set) {
				if set>>occurrences > 0 {
					none(i, tables(), things(), q, x)
				} else if _, ok := means.Rows(tables(), things(), q, x); !ok {
					t.Errorf("%s of %d occurrences is not told", tree.Text(x), occurrences)
				}
			}
		}
	}
}

// P7.1: what comes to nothing or to an error keeps no row, and such values are told as they are.
func TestRowsOfNothingAndErrors(t *testing.T) {
	d := api.Data{T: [][][]api.Val{{{n(0), null}, {bad, n(2)}, {n(5), n(1)}, {null, bad}}, {{bad}, {n(0)}, {null}, {n(5)}}, nil}}
	for i, x := range []struct {
		q    api.Query
		s    string
		want api.Bag
	}{
		{told([]int{0}, 0), "0", api.Bag{Cols: []int{0, 1}, Rows: d.T[0]}},
		{with(told([]int{0}, 0), col(0)), "0", api.Bag{Cols: []int{0, 1}, Rows: [][]api.Val{{n(5), n(1)}}}},
		{with(told([]int{0}, 0), same(0, 0)), "0", api.Bag{Cols: []int{0, 1}, Rows: [][]api.Val{{n(0), null}, {n(5), n(1)}}}},
		{with(told([]int{0}, 0), same(1, 1), of(api.Any, num(1), of(api.Over, num(1), col(0)))), "0", api.Bag{Cols: []int{0, 1}, Rows: [][]api.Val{{bad, n(2)}, {n(5), n(1)}}}},
		{with(told([]int{0, 1}, 0), same(0, 4)), "(01)", api.Bag{Cols: []int{0, 1, 4}, Rows: [][]api.Val{{n(0), null, n(0)}, {n(5), n(1), n(5)}}}},
		{with(told([]int{0, 1}, 0), of(api.Any, same(0, 4), of(api.Over, col(1), col(4)))), "(10)", api.Bag{Cols: []int{4, 0, 1}, Rows: [][]api.Val{{n(0), n(0), null}, {n(5), n(5), n(1)}}}},
		{with(told([]int{0, 1}, 0), below(col(0), col(4)), col(4)), "(01)", api.Bag{Cols: []int{0, 1, 4}, Rows: [][]api.Val{{n(0), null, n(5)}}}},
	} {
		if got, ok := means.Rows(tables(), d, x.q, read(t, x.s)); !ok || !like(got, x.want) {
			t.Errorf("%d, %s: %v %v, not %v", i, x.s, got, ok, x.want)
		}
	}
}

// P7.2: of any query, and any bag: what bag's Pick, or its Group, tells.
func TestFinish(t *testing.T) {
	b := api.Bag{Cols: []int{9, 0, 4}, Rows: rows([]int{3, 1, 2}, []int{1, 1, 5}, []int{3, 1, 4}, []int{2, 0, 0})}
	b.Rows = append(b.Rows, []api.Val{null, n(7), bad}, []api.Val{bad, null, n(1)})
	for i, x := range []struct {
		q    api.Query
		want api.Bag
	}{
		{told(nil, 4, 9), api.Bag{Cols: []int{4, 9}, Rows: append(rows([]int{2, 3}, []int{5, 1}, []int{4, 3}, []int{0, 2}), []api.Val{bad, null}, []api.Val{n(1), bad})}},
		{told(nil, 0), api.Bag{Cols: []int{0}, Rows: append(rows([]int{1}, []int{1}, []int{1}, []int{0}, []int{7}), []api.Val{null})}},
		{told(nil, 9, 0, 4), b},
		{by(told(nil, 9, 0, 4), 9), b},
		{with(told([]int{7, 7, 7, 7, 7, 7}, 9, 0, 4), num(0)), b},
		{api.Query{By: -1, Sums: []int{3, 3}, Out: []int{9, 0, 4}}, b},
		{told(nil), api.Bag{Rows: make([][]api.Val, 6)}},
		{groups(nil, 9), api.Bag{Cols: []int{9, 16}, Rows: append(rows([]int{1, 1}, []int{2, 1}, []int{3, 2}), []api.Val{null, n(1)}, []api.Val{bad, n(1)})}},
		{groups(nil, 9, 4), api.Bag{Cols: []int{9, 16, 17}, Rows: append(rows([]int{1, 1, 5}, []int{2, 1, 0}, []int{3, 2, 6}), []api.Val{null, n(1), bad}, []api.Val{bad, n(1), n(1)})}},
		{api.Query{By: 0, Sums: []int{9, 9, 0, 4}, Out: []int{77, 77}, Ord: 5}, api.Bag{Cols: []int{0, 16, 17, 18, 19, 20}, Rows: append(rows([]int{0, 1, 2, 2, 0, 0}, []int{1, 3, 7, 7, 3, 11}), []api.Val{n(7), n(1), null, null, n(7), bad}, []api.Val{null, n(1), bad, bad, null, n(1)})}},
	} {
		if got, ok := means.Finish(x.q, b); !ok || !like(got, x.want) {
			t.Errorf("%d: %v %v, not %v", i, got, ok, x.want)
		}
	}
	none := api.Bag{Cols: []int{3}}
	if got, ok := means.Finish(told(nil, 3), none); !ok || !like(got, none) {
		t.Errorf("of no rows: %v %v", got, ok)
	}
	if got, ok := means.Finish(api.Query{By: 3, Ord: 3}, none); !ok || !like(got, api.Bag{Cols: []int{3, 16}}) {
		t.Errorf("groups of no rows: %v %v", got, ok)
	}
}

// P7.2: with the false of bag's Pick, and of its Group.
func TestFinishOfNone(t *testing.T) {
	right := api.Bag{Cols: []int{9, 0, 4}, Rows: rows([]int{3, 1, 2}, []int{1, 1, 5})}
	for i, q := range []api.Query{
		told(nil, 1), told(nil, 9, 0, 5), told(nil, 9, 9), told(nil, -1), told(nil, 16), told(nil, 0, most), told(nil, least),
		groups(nil, -2), groups(nil, 1), groups(nil, 16), groups(nil, most), groups(nil, least), groups(nil, 9, 1), groups(nil, 9, 0, 0, -1), groups(nil, 9, 0, 0, 0, 0, 0),
		{By: 1, Out: []int{9}}, {By: -2, Out: []int{9}},
	} {
		if got, ok := means.Finish(q, right); ok || !isZero(got) {
			t.Errorf("%d: %v %v", i, got, ok)
		}
	}
	for i, b := range []api.Bag{
		{Cols: []int{0, 0}}, {Cols: []int{0, 16}}, {Cols: []int{-1, 0}}, {Cols: []int{0}, Rows: rows([]int{1, 2})}, {Cols: []int{0}, Rows: [][]api.Val{nil}}, {Cols: []int{0}, Rows: [][]api.Val{{{K: 3}}}},
		{Cols: []int{0}, Rows: slices.Repeat(rows([]int{1}), 5001)}, {},
	} {
		for _, q := range []api.Query{told(nil, 0), groups(nil, 0), groups(nil, 0, 0)} {
			if got, ok := means.Finish(q, b); ok || !isZero(got) {
				t.Errorf("bag %d: %v %v", i, got, ok)
			}
		}
	}
	full := api.Bag{Cols: []int{0}, Rows: slices.Repeat(rows([]int{1}), 5000)}
	if got, ok := means.Finish(groups(nil, 0, 0), full); !ok || !like(got, api.Bag{Cols: []int{0, 16, 17}, Rows: rows([]int{1, 5000, 5000})}) {
		t.Errorf("of 5000 rows: %v %v", got, ok)
	}
}

// P7.3: of one occurrence and of several, told by columns and in groups, never put in order; columns that are kept by need not be told.
func TestAll(t *testing.T) {
	for i, x := range []struct {
		q    api.Query
		want api.Bag
	}{
		{told([]int{0}, 0), api.Bag{Cols: []int{0}, Rows: rows([]int{1}, []int{3}, []int{2})}},
		{by(told([]int{0}, 1, 0), 1), api.Bag{Cols: []int{1, 0}, Rows: rows([]int{2, 1}, []int{4, 3}, []int{1, 2})}},
		{with(told([]int{0}, 0), below(num(1), col(1))), api.Bag{Cols: []int{0}, Rows: rows([]int{1}, []int{3})}},
		{told([]int{2}, 0), api.Bag{Cols: []int{0}}},
		{told([]int{0, 2}, 0), api.Bag{Cols: []int{0}}},
		{told([]int{1, 0}, 0, 4), api.Bag{Cols: []int{0, 4}, Rows: rows([]int{4, 1}, []int{4, 3}, []int{4, 2}, []int{1, 1}, []int{1, 3}, []int{1, 2})}},
		{by(told([]int{0, 1}, 4, 0), 4), api.Bag{Cols: []int{4, 0}, Rows: rows([]int{4, 1}, []int{1, 1}, []int{4, 3}, []int{1, 3}, []int{4, 2}, []int{1, 2})}},
		{told([]int{0, 1}, 4), api.Bag{Cols: []int{4}, Rows: rows([]int{4}, []int{1}, []int{4}, []int{1}, []int{4}, []int{1})}},
		{with(told([]int{0, 1, 0}, 8, 0), same(0, 9), below(col(4), num(4)), below(col(0), num(2))), api.Bag{Cols: []int{8, 0}, Rows: rows([]int{2, 1})}},
		{with(told([]int{0, 1, 0, 1}, 0, 12), same(0, 9), same(4, 12), below(col(0), col(8))), api.Bag{Cols: []int{0, 12}, Rows: rows([]int{1, 4}, []int{1, 1})}},
		{by(groups([]int{0}, 1, 0), 1), api.Bag{Cols: []int{1, 16, 17}, Rows: rows([]int{1, 1, 2}, []int{2, 1, 1}, []int{4, 1, 3})}},
		{groups([]int{0, 1}, 4, 0, 1, 4, 0), api.Bag{Cols: []int{4, 16, 17, 18, 19, 20}, Rows: rows([]int{1, 3, 6, 7, 3, 6}, []int{4, 3, 6, 7, 12, 6})}},
		{with(groups([]int{0, 1}, 0), same(0, 4)), api.Bag{Cols: []int{0, 16}, Rows: rows([]int{1, 1})}},
		{groups([]int{2}, 0, 0), api.Bag{Cols: []int{0, 16, 17}}},
	} {
		if got, ok := means.All(tables(), things(), x.q); !ok || !like(got, x.want) {
			t.Errorf("%d: %v %v, not %v", i, got, ok, x.want)
		}
	}
}

// P7.3: a query that may not be, and rows that do not fit: nothing is Right of these, not even a zero one.
func TestAllOfNone(t *testing.T) {
	none := func(i int, c api.Cat, d api.Data, q api.Query) {
		t.Helper()
		if b, ok := means.All(c, d, q); ok || !isZero(b) {
			t.Errorf("%d: %v %v", i, b, ok)
		}
		for _, b := range []api.Bag{{}, {Cols: []int{0}}, {Cols: []int{0, 16}}, {Cols: []int{0}, Rows: rows([]int{1})}} {
			if means.Right(c, d, q, b) {
				t.Errorf("%d: %v is right", i, b)
			}
		}
	}
	for i, q := range wrongQueries() {
		none(i, tables(), things(), q)
	}
	for i, d := range wrongThings() {
		for _, q := range []api.Query{told([]int{0}, 0), told([]int{1}, 0), groups([]int{2}, 0)} {
			none(i, tables(), d, q)
		}
	}
	for i, c := range wrongCats() {
		none(i, c, api.Data{T: make([][][]api.Val, len(c.T))}, told([]int{0}, 0))
		none(i, c, things(), told([]int{0}, 0))
	}
}

// P7.3: All's own answer and the same rows in another order; a row too few, too many or another one; other columns, and the same in another order.
func TestRight(t *testing.T) {
	q := with(told([]int{0, 1}, 4, 0), below(col(4), num(4)), below(col(0), num(3)))
	twice := told([]int{1, 1}, 0)
	for i, x := range []struct {
		q    api.Query
		b    api.Bag
		want bool
	}{
		{q, api.Bag{Cols: []int{4, 0}, Rows: rows([]int{1, 1}, []int{1, 2})}, true},
		{q, api.Bag{Cols: []int{4, 0}, Rows: rows([]int{1, 2}, []int{1, 1})}, true},
		{q, api.Bag{Cols: []int{4, 0}, Rows: rows([]int{1, 1})}, false},
		{q, api.Bag{Cols: []int{4, 0}, Rows: rows([]int{1, 1}, []int{1, 2}, []int{1, 2})}, false},
		{q, api.Bag{Cols: []int{4, 0}, Rows: rows([]int{1, 1}, []int{1, 3})}, false},
		{q, api.Bag{Cols: []int{4, 0}, Rows: rows([]int{1, 1}, []int{1, 1})}, false},
		{q, api.Bag{Cols: []int{4, 0}, Rows: [][]api.Val{row(1, 1), {n(1), null}}}, false},
		{q, api.Bag{Cols: []int{4, 0}, Rows: rows([]int{1, 1}, []int{1})}, false},
		{q, api.Bag{Cols: []int{4, 0}, Rows: rows([]int{1, 1}, []int{1, 2, 0})}, false},
		{q, api.Bag{Cols: []int{4, 0}}, false},
		{q, api.Bag{}, false},
		{q, api.Bag{Cols: []int{0, 4}, Rows: rows([]int{1, 1}, []int{2, 1})}, false},
		{q, api.Bag{Cols: []int{0, 4}, Rows: rows([]int{1, 1}, []int{1, 2})}, false},
		{q, api.Bag{Cols: []int{4, 1}, Rows: rows([]int{1, 1}, []int{1, 2})}, false},
		{q, api.Bag{Cols: []int{4}, Rows: rows([]int{1}, []int{1})}, false},
		{q, api.Bag{Cols: []int{4, 0, 1}, Rows: rows([]int{1, 1, 2}, []int{1, 2, 1})}, false},
		{twice, api.Bag{Cols: []int{0}, Rows: rows([]int{4}, []int{1}, []int{1}, []int{4})}, true},
		{twice, api.Bag{Cols: []int{0}, Rows: rows([]int{4}, []int{1}, []int{1}, []int{1})}, false},
		{twice, api.Bag{Cols: []int{0}, Rows: rows([]int{4}, []int{1})}, false},
		{told([]int{2}, 0), api.Bag{Cols: []int{0}}, true},
		{told([]int{2}, 0), api.Bag{Cols: []int{0}, Rows: [][]api.Val{}}, true},
		{told([]int{2}, 0), api.Bag{}, false},
		{told([]int{2}, 0), api.Bag{Cols: []int{0}, Rows: rows([]int{0})}, false},
		{groups([]int{1}, 0, 0), api.Bag{Cols: []int{0, 16, 17}, Rows: rows([]int{4, 1, 4}, []int{1, 1, 1})}, true},
		{groups([]int{1}, 0, 0), api.Bag{Cols: []int{0, 16, 17}, Rows: rows([]int{4, 1, 4}, []int{1, 2, 1})}, false},
		{groups([]int{1}, 0, 0), api.Bag{Cols: []int{0, 17, 16}, Rows: rows([]int{4, 4, 1}, []int{1, 1, 1})}, false},
		{groups([]int{1}, 0, 0), api.Bag{Cols: []int{0, 16}, Rows: rows([]int{4, 1}, []int{1, 1})}, false},
	} {
		if got := means.Right(tables(), things(), x.q, x.b); got != x.want {
			t.Errorf("%d: %v", i, got)
		}
	}
}

// P7.3: with Ord only what is Sorted by that column is right, and of one value in any order.
func TestRightInOrder(t *testing.T) {
	d := api.Data{T: [][][]api.Val{{{n(2), n(1)}, {bad, n(2)}, {n(2), n(3)}, {null, n(4)}, {n(-5), n(5)}}, {{n(4)}, {null}, {n(4)}, {n(-1)}}, nil}}
	first, second, third, nothing, bads := []api.Val{n(-5), n(5)}, []api.Val{n(2), n(1)}, []api.Val{n(2), n(3)}, []api.Val{null, n(4)}, []api.Val{bad, n(2)}
	q := told([]int{0}, 0, 1)
	for i, x := range []struct {
		ord  int
		rows [][]api.Val
		want bool
	}{
		{0, [][]api.Val{first, second, third, nothing, bads}, true}, {0, [][]api.Val{first, third, second, nothing, bads}, true},
		{0, [][]api.Val{second, first, third, nothing, bads}, false}, {0, [][]api.Val{first, second, nothing, third, bads}, false}, {0, [][]api.Val{first, second, third, bads, nothing}, false},
		{0, [][]api.Val{nothing, first, second, third, bads}, false}, {0, [][]api.Val{bads, first, second, third, nothing}, false}, {0, d.T[0], false}, {0, [][]api.Val{first, second, nothing, bads}, false},
		{0, [][]api.Val{first, second, second, nothing, bads}, false}, {1, d.T[0], true}, {1, [][]api.Val{bads, second, third, nothing, first}, false},
		{1, [][]api.Val{first, second, third, nothing, bads}, false}, {-1, d.T[0], true}, {-1, [][]api.Val{bads, nothing, third, second, first}, true},
	} {
		if got := means.Right(tables(), d, by(q, x.ord), api.Bag{Cols: []int{0, 1}, Rows: x.rows}); got != x.want {
			t.Errorf("%d: %v", i, got)
		}
	}
	up := [][]api.Val{row(-1, 1), row(4, 2), {null, n(1)}}
	down := [][]api.Val{{null, n(1)}, row(4, 2), row(-1, 1)}
	for i, x := range []struct {
		q    api.Query
		rows [][]api.Val
		want bool
	}{{groups([]int{1}, 0), up, true}, {groups([]int{1}, 0), down, true}, {by(groups([]int{1}, 0), 0), up, true}, {by(groups([]int{1}, 0), 0), down, false}} {
		if got := means.Right(tables(), d, x.q, api.Bag{Cols: []int{0, 16}, Rows: x.rows}); got != x.want {
			t.Errorf("groups %d: %v", i, got)
		}
	}
}

// P7.3: All is as it comes, so in order it is right only when it is sorted; and then it always is.
func TestRightOfAll(t *testing.T) {
	for i, q := range []api.Query{told([]int{0}, 0, 1), told([]int{0, 1, 0}, 9, 0), with(told([]int{0, 1}, 0, 4), below(col(0), col(4))), groups([]int{0, 1}, 4, 0), told([]int{2}, 0)} {
		all, ok := means.All(tables(), things(), q)
		if !ok || !means.Right(tables(), things(), q, all) {
			t.Fatalf("%d: All is not right: %v %v", i, all, ok)
		}
		slices.Reverse(all.Rows)
		if !means.Right(tables(), things(), q, all) {
			t.Errorf("%d: not in another order", i)
		}
		ord := all.Cols[0]
		if got := means.Right(tables(), things(), by(q, ord), all); got != bag.Sorted(all, ord) {
			t.Errorf("%d: in order by %d: %v", i, ord, got)
		}
		if !means.Right(tables(), things(), by(q, ord), bag.Sort(all, ord)) {
			t.Errorf("%d: not even when it is sorted", i)
		}
	}
}
