package data_test

import (
	"math"
	"slices"
	"testing"

	"roadbook/api"
	"roadbook/bag"
	"roadbook/data"
)

const most, least = math.MaxInt, math.MinInt

var (
	null = api.Val{K: api.Null}
	bad  = api.Val{K: api.Bad}
)

func n(i int) api.Val { return api.Val{N: i} }

// row is one of numbers.
func row(l ...int) []api.Val {
	r := []api.Val{}
	for _, i := range l {
		r = append(r, n(i))
	}
	return r
}

// rowsOf are so many rows, of so many numbers each, no two rows the same.
func rowsOf(many, wide int) [][]api.Val {
	var l [][]api.Val
	for i := range many {
		r := make([]api.Val, wide)
		for j := range r {
			r[j] = n(10*i + j)
		}
		l = append(l, r)
	}
	return l
}

func cat(l ...api.Def) api.Cat { return api.Cat{T: l} }

func rows(l ...[][]api.Val) api.Data { return api.Data{T: l} }

// equal tells whether both bags are the same, row by row in order.
func equal(a, b api.Bag) bool {
	return slices.Equal(a.Cols, b.Cols) && slices.EqualFunc(a.Rows, b.Rows, slices.Equal[[]api.Val])
}

// rightCats are catalogs that may be: of 1 to 4 tables, at both ends of each number.
func rightCats() []api.Cat {
	one, four := api.Def{Cols: 1, Rows: 1}, api.Def{Cols: 4, Rows: 1000000}
	return []api.Cat{
		cat(one), cat(four), cat(api.Def{Cols: 1, Rows: 1000000}), cat(api.Def{Cols: 4, Rows: 1}), cat(api.Def{Cols: 2, Rows: 999999}), cat(api.Def{Cols: 3, Rows: 2}),
		cat(one, one), cat(four, one), cat(one, four, four), cat(one, api.Def{Cols: 2, Rows: 2}, api.Def{Cols: 3, Rows: 3}, four), cat(four, four, four, four),
	}
}

// wrongDefs are tables that may not be, each for one cause but the last ones.
func wrongDefs() []api.Def {
	return []api.Def{
		{Cols: 0, Rows: 1}, {Cols: 5, Rows: 1}, {Cols: -1, Rows: 1}, {Cols: most, Rows: 1}, {Cols: least, Rows: 1},
		{Cols: 1, Rows: 0}, {Cols: 1, Rows: 1000001}, {Cols: 1, Rows: -1}, {Cols: 4, Rows: most}, {Cols: 4, Rows: least},
		{}, {Cols: 5, Rows: 1000001}, {Cols: -1, Rows: -1},
	}
}

// wrongCats are catalogs that may not be: with none or too many tables, or with a wrong one, at each place.
func wrongCats() []api.Cat {
	one := api.Def{Cols: 1, Rows: 1}
	l := []api.Cat{{}, {T: []api.Def{}}, cat(one, one, one, one, one), {T: make([]api.Def, 5)}, {T: slices.Repeat([]api.Def{one}, 1000)}}
	for _, t := range wrongDefs() {
		l = append(l, cat(t), cat(t, one), cat(one, t), cat(one, t, one), cat(one, one, one, t), cat(t, t, t, t))
	}
	return l
}

// P4.1, R4
func TestMayAndNew(t *testing.T) {
	for i, c := range rightCats() {
		if !data.May(c) {
			t.Errorf("%d may not be: %v", i, c)
		}
		if got, ok := data.New(c.T...); !ok || !slices.Equal(got.T, c.T) {
			t.Errorf("%d: %v, %v", i, got, ok)
		}
	}
	for i, c := range wrongCats() {
		if data.May(c) {
			t.Errorf("%d may be: %v", i, c)
		}
		if got, ok := data.New(c.T...); ok || got.T != nil {
			t.Errorf("%d: %v, %v", i, got, ok)
		}
	}
	if got, ok := data.New(); ok || got.T != nil {
		t.Errorf("of none: %v, %v", got, ok)
	}
	if got, ok := data.New(api.Def{Cols: 2, Rows: 100}, api.Def{Cols: 1, Rows: 10}); !ok || !slices.Equal(got.T, []api.Def{{Cols: 2, Rows: 100}, {Cols: 1, Rows: 10}}) {
		t.Errorf("%v, %v", got, ok)
	}
}

// two is a catalog of two tables, of 2 columns and of 1.
func two() api.Cat { return cat(api.Def{Cols: 2, Rows: 100}, api.Def{Cols: 1, Rows: 10}) }

// rightRows are rows that fit two.
func rightRows() []api.Data {
	return []api.Data{
		rows(nil, nil), rows([][]api.Val{}, [][]api.Val{}), rows(rowsOf(1, 2), nil), rows(nil, rowsOf(1, 1)),
		rows(rowsOf(8, 2), rowsOf(8, 1)), rows(rowsOf(7, 2), rowsOf(8, 1)), rows(slices.Repeat([][]api.Val{row(1, 1)}, 8), nil),
		rows([][]api.Val{row(1, 2), {n(3), null}, {bad, null}}, [][]api.Val{row(most), row(least), row(0), {null}, {bad}}),
	}
}

// wrongRows are rows that do not fit two, each for one cause.
func wrongRows() []api.Data {
	l := []api.Data{
		{}, rows(), rows(nil), rows(rowsOf(1, 2)), rows(nil, nil, nil), rows(rowsOf(1, 2), rowsOf(1, 1), rowsOf(1, 1)), {T: make([][][]api.Val, 1000)},
		rows(rowsOf(9, 2), nil), rows(nil, rowsOf(9, 1)), rows(rowsOf(8, 2), rowsOf(9, 1)), rows(rowsOf(5001, 2), nil),
		rows(rowsOf(1, 1), nil), rows(rowsOf(1, 3), nil), rows(nil, rowsOf(1, 0)), rows(nil, rowsOf(1, 2)), rows(nil, [][]api.Val{nil}), rows(rowsOf(8, 1), rowsOf(8, 2)),
		rows([][]api.Val{row(1, 2), row(1)}, nil), rows([][]api.Val{row(1, 2), row(1, 2, 3), row(1, 2)}, nil), rows(rowsOf(8, 2), [][]api.Val{row(1), row(1), {}}),
	}
	for _, v := range []api.Val{{K: 3}, {K: -1}, {K: api.Null, N: 1}, {K: api.Bad, N: -1}, {K: least, N: most}, {K: most}} {
		l = append(l, rows([][]api.Val{{v, n(1)}}, nil), rows([][]api.Val{row(1, 2), {n(1), v}}, nil), rows(nil, [][]api.Val{row(1), {v}}), rows(rowsOf(8, 2), append(rowsOf(7, 1), []api.Val{v})))
	}
	return l
}

// P4.2
func TestFits(t *testing.T) {
	for i, d := range rightRows() {
		if !data.Fits(two(), d) {
			t.Errorf("%d does not fit", i)
		}
	}
	for i, d := range wrongRows() {
		if data.Fits(two(), d) {
			t.Errorf("%d fits", i)
		}
	}
	for i, c := range rightCats() {
		for many := range 10 {
			d := api.Data{}
			for _, def := range c.T {
				d.T = append(d.T, rowsOf(many, def.Cols))
			}
			if data.Fits(c, d) != (many <= 8) {
				t.Errorf("%d: %d rows of each table", i, many)
			}
			last := c.T[len(c.T)-1].Cols
			for _, wide := range []int{last - 1, last + 1} {
				if d.T[len(c.T)-1] = rowsOf(many, wide); data.Fits(c, d) != (many == 0) {
					t.Errorf("%d: %d rows, of %d values, not %d", i, many, wide, last)
				}
			}
		}
	}
	for i, c := range wrongCats() {
		d := api.Data{}
		for _, def := range c.T {
			d.T = append(d.T, rowsOf(1, min(max(def.Cols, 0), 10)))
		}
		if data.Fits(c, d) || data.Fits(c, api.Data{T: make([][][]api.Val, len(c.T))}) || data.Fits(c, api.Data{}) {
			t.Errorf("rows fit %d, which may not be", i)
		}
	}
}

// P4.3
func TestCol(t *testing.T) {
	want := 0
	for occ := range 4 {
		for col := range 4 {
			if got := data.Col(occ, col); got != want {
				t.Errorf("%d, %d: %d, not %d", occ, col, got, want)
			}
			want++
		}
	}
	if got := data.Col(2, 1); got != 9 {
		t.Errorf("column 1 of occurrence 2: %d", got)
	}
	for _, wrong := range []int{-1, -2, -4, 4, 5, 16, most, least, 1 << 62} {
		for _, other := range []int{0, 1, 2, 3, -1, 4, most, least} {
			if a, b := data.Col(wrong, other), data.Col(other, wrong); a != -1 || b != -1 {
				t.Errorf("%d with %d: %d, %d", wrong, other, a, b)
			}
		}
	}
}

// P4.3, R4
func TestSplit(t *testing.T) {
	for id := range 16 {
		occ, col, ok := data.Split(id)
		if !ok || occ != id/4 || col != id%4 || data.Col(occ, col) != id {
			t.Errorf("%d: %d, %d, %v", id, occ, col, ok)
		}
	}
	for _, id := range []int{-1, 16, -2, -4, -5, 17, 20, most, least} {
		if occ, col, ok := data.Split(id); occ != 0 || col != 0 || ok {
			t.Errorf("%d: %d, %d, %v", id, occ, col, ok)
		}
	}
}

// P4.4, P4.5
func TestOf(t *testing.T) {
	d := rows([][]api.Val{row(5, 2), {n(3), null}, row(5, 2), {bad, n(0)}}, nil)
	for i, c := range []struct {
		table, occ int
		want       api.Bag
	}{
		{0, 0, api.Bag{Cols: []int{0, 1}, Rows: d.T[0]}}, {0, 2, api.Bag{Cols: []int{8, 9}, Rows: d.T[0]}}, {0, 3, api.Bag{Cols: []int{12, 13}, Rows: d.T[0]}},
		{1, 0, api.Bag{Cols: []int{0}}}, {1, 1, api.Bag{Cols: []int{4}}}, {1, 3, api.Bag{Cols: []int{12}}}, // a table with no rows
	} {
		if got, ok := data.Of(two(), d, c.table, c.occ); !ok || !equal(got, c.want) {
			t.Errorf("%d: %v, %v, not %v", i, got, ok, c.want)
		}
	}
	for i, c := range rightCats() {
		d := api.Data{}
		for j, def := range c.T {
			d.T = append(d.T, rowsOf(8-j, def.Cols))
		}
		for table, def := range c.T {
			for occ := range 4 {
				want := api.Bag{Rows: d.T[table]}
				for col := range def.Cols {
					want.Cols = append(want.Cols, 4*occ+col)
				}
				if got, ok := data.Of(c, d, table, occ); !ok || !equal(got, want) || !bag.May(got) {
					t.Errorf("%d: table %d, occurrence %d: %v, %v", i, table, occ, got, ok)
				}
			}
		}
	}
	for i, d := range rightRows() {
		if got, ok := data.Of(two(), d, 0, 1); !ok || !equal(got, api.Bag{Cols: []int{4, 5}, Rows: d.T[0]}) || !bag.May(got) {
			t.Errorf("%d: %v, %v", i, got, ok)
		}
	}
}

// P4.4, R4
func TestOfNone(t *testing.T) {
	fail := func(what string, c api.Cat, d api.Data, table, occ int) {
		if got, ok := data.Of(c, d, table, occ); ok || got.Cols != nil || got.Rows != nil {
			t.Errorf("%s, table %d, occurrence %d: %v, %v", what, table, occ, got, ok)
		}
	}
	for _, d := range rightRows() {
		for _, table := range []int{-1, 2, 3, 4, most, least} {
			fail("no such table", two(), d, table, 0)
			fail("no such table, nor occurrence", two(), d, table, 4)
		}
		for _, occ := range []int{-1, 4, 5, most, least} {
			fail("no such occurrence", two(), d, 0, occ)
			fail("no such occurrence", two(), d, 1, occ)
		}
		fail("no catalog", api.Cat{}, d, 0, 0)
	}
	// The other table's rows may be those that do not fit.
	for _, d := range wrongRows() {
		fail("wrong rows", two(), d, 0, 0)
		fail("wrong rows", two(), d, 1, 0)
	}
	for _, c := range wrongCats() {
		fail("wrong catalog", c, api.Data{T: make([][][]api.Val, len(c.T))}, 0, 0)
		fail("wrong catalog, no rows", c, api.Data{}, 0, 0)
	}
	four := cat(slices.Repeat([]api.Def{{Cols: 4, Rows: 1}}, 4)...)
	fail("beyond four tables", four, rows(nil, nil, nil, nil), 4, 0)
	if got, ok := data.Of(four, rows(nil, nil, nil, nil), 3, 3); !ok || !equal(got, api.Bag{Cols: []int{12, 13, 14, 15}}) {
		t.Errorf("the last table, as the last occurrence: %v, %v", got, ok)
	}
}
