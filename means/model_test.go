package means_test

import (
	"reflect"
	"slices"
	"testing"

	"roadbook/api"
	"roadbook/bag"
	"roadbook/expr"
	"roadbook/means"
	"roadbook/tree"
)

// world is tables, with their rows, and the queries that are asked of them.
type world struct {
	c api.Cat
	d api.Data
	l []api.Query
}

// mixed are three tables, of all kinds of values, and queries of one to four occurrences, with expressions that are Own of one, and New of two, three and four.
func mixed() world {
	c := api.Cat{T: []api.Def{{Cols: 2, Rows: 100}, {Cols: 1, Rows: 10}, {Cols: 3, Rows: 7}}}
	d := api.Data{T: [][][]api.Val{
		{{n(1), n(2)}, {n(3), null}, {n(1), n(2)}, {bad, n(1)}, {n(0), n(3)}},
		{{n(2)}, {n(1)}, {n(2)}, {null}},
		{{n(1), n(0), n(2)}, {n(2), bad, n(1)}, {n(3), n(3), n(3)}},
	}}
	own, two, three, four := of(api.Any, col(0), same(1, 1)), same(0, 4), of(api.Any, same(0, 8), same(4, 8), same(4, 9)), below(of(api.Minus, col(12), col(4)), of(api.Plus, col(0), col(8)))
	over := of(api.Any, same(1, 4), of(api.Same, of(api.Over, col(0), col(4)), num(1)))
	last := below(col(8), num(3))
	l := []api.Query{
		told([]int{0}, 1, 0), with(told([]int{0}, 0), own), with(by(told([]int{2}, 2, 0), 0), same(0, 0), below(col(1), num(3))), with(by(groups([]int{0}, 0, 1, 0), 0), own),
		told([]int{1, 1}, 4, 0), with(told([]int{0, 1}, 0, 4, 1), own, two), with(by(told([]int{0, 1}, 4, 1), 4), over), with(groups([]int{0, 1}, 4, 0, 1), over, own, over),
		told([]int{1, 2, 1}, 0, 8, 4), with(told([]int{0, 1, 2}, 8, 1, 10), two, three, own), with(groups([]int{0, 1, 2}, 4, 9, 0, 1), three, last), with(by(told([]int{0, 1, 2}, 9, 10), 9), same(8, 0), three, same(4, 1), last, own, two),
		with(told([]int{0, 1, 2, 1}, 0, 4, 8, 12, 1, 9, 10), four), with(by(told([]int{0, 1, 2, 0}, 12, 13), 12), four, three, own, same(13, 1)), with(groups([]int{0, 1, 2, 2}, 14, 0, 1, 4, 9), two, four, last, three, own, over), groups([]int{1, 1, 2, 1}, 12),
	}
	return world{c, d, l}
}

// empty is like mixed, but that a table has no rows.
func empty(table int) world {
	w := mixed()
	w.d.T[table] = nil
	return w
}

// full are tables of as many columns, and rows, as there may be, with a query of as many occurrences, expressions and columns.
func full() world {
	var d api.Data
	for table := range 4 {
		var l [][]api.Val
		for i := range 8 {
			l = append(l, row(i, (i+table)%3, i*table, 7-i))
		}
		d.T = append(d.T, l)
	}
	occ := []int{3, 1, 0, 2}
	q := by(told(occ, 15, 0, 4, 8, 11, 12, 1, 6), 8)
	return world{api.Cat{T: slices.Repeat([]api.Def{{Cols: 4, Rows: 1000000}}, 4)}, d, []api.Query{
		q, with(q, same(1, 5), same(5, 9), below(col(0), col(4)), same(13, 1), below(col(8), col(12)), of(api.Any, col(3), col(7), col(11), col(15))), groups(occ, 13, 0, 4, 8, 12),
	}}
}

func worlds() []world { return []world{mixed(), empty(0), empty(1), empty(2), full()} }

// columnsOf are those of an occurrence of q, from the words alone.
func columnsOf(w world, q api.Query, occ int) []int {
	var l []int
	for i := range w.c.T[q.Occ[occ]].Cols {
		l = append(l, 4*occ+i)
	}
	return l
}

// modelled are all rows of these occurrences, put together in this order, the last ones changing first, that each expression keeps which has all its columns there.
func modelled(w world, q api.Query, occs []int) api.Bag {
	var b api.Bag
	for _, occ := range occs {
		b.Cols = append(b.Cols, columnsOf(w, q, occ)...)
	}
	var asked []api.Expr
	for _, e := range q.P {
		if !slices.ContainsFunc(expr.Cols(e), func(col int) bool { return !slices.Contains(b.Cols, col) }) {
			asked = append(asked, e)
		}
	}
	var more func(occs []int, r []api.Val)
	more = func(occs []int, r []api.Val) {
		if len(occs) > 0 {
			for _, x := range w.d.T[q.Occ[occs[0]]] {
				more(occs[1:], append(slices.Clip(r), x...))
			}
			return
		}
		for _, e := range asked {
			if !expr.Keeps(e, b.Cols, r) {
				return
			}
		}
		b.Rows = append(b.Rows, r)
	}
	more(occs, nil)
	return b
}

// digits are the occurrences of a tree's text, in order.
func digits(s string) []int {
	var l []int
	for _, sign := range s {
		if sign >= '0' && sign <= '9' {
			l = append(l, int(sign-'0'))
		}
	}
	return l
}

// P7.1, P7.2, P7.3, P7.4: each tree of each set tells the rows of its occurrences, in their order, that are kept; of all of them, finished, the same bag as All, which is right when it is sorted.
func TestByModel(t *testing.T) {
	kept := 0
	for i, w := range worlds() {
		for j, q := range w.l {
			everyOccurrence := 1<<len(q.Occ) - 1
			all, ok := means.All(w.c, w.d, q)
			want, fine := means.Finish(q, modelled(w, q, []int{0, 1, 2, 3}[:len(q.Occ)]))
			if !ok || !fine || !like(all, want) {
				t.Fatalf("world %d, query %d: All is %v %v, not %v %v", i, j, all, ok, want, fine)
			}
			kept += len(all.Rows)
			models := map[string]api.Bag{}
			for set := 1; set <= everyOccurrence; set++ {
				for _, x := range tree.All(set) {
					s := tree.Text(x)
					order := string(slices.DeleteFunc([]byte(s), func(b byte) bool { return b == '(' || b == ')' }))
					if _, there := models[order]; !there {
						models[order] = modelled(w, q, digits(s))
					}
					got, ok := means.Rows(w.c, w.d, q, x)
					if !ok || !like(got, models[order]) {
						t.Fatalf("world %d, query %d, %s: %v %v, not %v", i, j, s, got, ok, models[order])
					}
					if set == everyOccurrence {
						finishedIsAll(t, w, q, got, all)
					}
				}
			}
		}
	}
	if kept < 1000 {
		t.Errorf("too few rows to tell anything: %d", kept)
	}
}

// finishedIsAll asks that the rows of a tree of all occurrences, finished, are the bag that All tells.
func finishedIsAll(t *testing.T, w world, q api.Query, rows, all api.Bag) {
	t.Helper()
	got, ok := means.Finish(q, rows)
	if !ok || !bag.Same(got, all) {
		t.Fatalf("%v: finished %v %v, not %v", q, got, ok, all)
	}
	if sorted := bag.Sort(got, q.Ord); !means.Right(w.c, w.d, q, sorted) {
		t.Fatalf("%v: not right: %v", q, sorted)
	}
	if means.Right(w.c, w.d, q, got) != (q.Ord == -1 || bag.Sorted(got, q.Ord)) {
		t.Fatalf("%v: right, or not, by another order: %v", q, got)
	}
}

// P7.3: of each query's answer, a row less, more or another one is not right, nor is it with its columns turned.
func TestRightOfChanged(t *testing.T) {
	for i, w := range worlds()[:4] {
		for j, q := range w.l {
			all, _ := means.All(w.c, w.d, q)
			sorted := bag.Sort(all, q.Ord)
			wrong := func(b api.Bag) {
				t.Helper()
				if means.Right(w.c, w.d, q, b) {
					t.Fatalf("world %d, query %d: %v is right", i, j, b)
				}
			}
			for k, r := range sorted.Rows {
				rest := slices.Delete(slices.Clone(sorted.Rows), k, k+1)
				wrong(api.Bag{Cols: sorted.Cols, Rows: rest})
				wrong(api.Bag{Cols: sorted.Cols, Rows: slices.Insert(slices.Clone(sorted.Rows), k, r)})
				for place := range r {
					other := slices.Clone(r)
					other[place] = api.Val{N: 99}
					wrong(api.Bag{Cols: sorted.Cols, Rows: slices.Insert(slices.Clone(rest), k, other)})
				}
			}
			for k := range sorted.Cols {
				cols := slices.Clone(sorted.Cols)
				cols[k] = 3
				wrong(api.Bag{Cols: cols, Rows: sorted.Rows})
			}
			if len(sorted.Cols) > 1 {
				cols := slices.Clone(sorted.Cols)
				slices.Reverse(cols)
				wrong(api.Bag{Cols: cols, Rows: sorted.Rows})
			}
		}
	}
}

// copied is b in memory of its own.
func copied(b api.Bag) api.Bag {
	c := api.Bag{Cols: slices.Clone(b.Cols)}
	for _, r := range b.Rows {
		c.Rows = append(c.Rows, slices.Clone(r))
	}
	return c
}

// spoil changes all that a bag's lists hold, and what stands behind them.
func spoil(b api.Bag) {
	for i := range b.Cols {
		b.Cols[i] = 77
	}
	_ = append(b.Cols, 77)
	for i := range b.Rows {
		for j := range b.Rows[i] {
			b.Rows[i][j] = api.Val{K: 7, N: 7}
		}
		_ = append(b.Rows[i], api.Val{K: 7, N: 7})
	}
	_ = append(b.Rows, nil)
}

// R3, R5: what is handed in stays as it was, and what is answered is the caller's own.
func TestStays(t *testing.T) {
	for i, w := range worlds()[:4] {
		was := worlds()[i]
		for j, q := range w.l {
			x := tree.First(len(q.Occ))
			inner, _ := means.Rows(w.c, w.d, q, x)
			wasInner := copied(inner)
			for k, ask := range []func() api.Bag{
				func() api.Bag { b, _ := means.Rows(w.c, w.d, q, x); return b },
				func() api.Bag { b, _ := means.Rows(w.c, w.d, q, tree.Leaf(0)); return b },
				func() api.Bag { b, _ := means.Finish(q, inner); return b },
				func() api.Bag { b, _ := means.All(w.c, w.d, q); return b },
			} {
				first, again := ask(), ask()
				spoil(first)
				third := ask()
				if !like(again, third) {
					t.Errorf("world %d, query %d, call %d: %v, and then %v", i, j, k, again, third)
				}
			}
			b, _ := means.All(w.c, w.d, q)
			wasB := copied(b)
			means.Right(w.c, w.d, q, b)
			if !like(inner, wasInner) || !like(b, wasB) || !tree.Same(x, tree.First(len(q.Occ))) {
				t.Errorf("world %d, query %d: a bag or a tree is changed", i, j)
			}
		}
		if !reflect.DeepEqual(w, was) {
			t.Errorf("world %d is changed: %v, was %v", i, w, was)
		}
	}
}

// P7.2, R3: what is finished of columns as they stand is not what was handed in.
func TestFinishIsNew(t *testing.T) {
	b := api.Bag{Cols: []int{0, 1}, Rows: rows([]int{1, 2}, []int{3, 4})}
	q := told(nil, 0, 1)
	got, _ := means.Finish(q, b)
	spoil(got)
	if !like(b, api.Bag{Cols: []int{0, 1}, Rows: rows([]int{1, 2}, []int{3, 4})}) || !slices.Equal(q.Out, []int{0, 1}) {
		t.Errorf("changed: %v, %v", b, q.Out)
	}
}

// P1, R1, R4: every call comes back, whatever it is of, with a zero bag beside a false.
func TestAnyArguments(t *testing.T) {
	cats := append(wrongCats(), tables(), mixed().c, full().c)
	datas := append(wrongThings(), things(), mixed().d, full().d)
	queries := append(wrongQueries(), mixed().l...)
	trees := append(wrongTrees(), tree.Leaf(0), tree.Leaf(3), tree.First(2), tree.First(4))
	bags := []api.Bag{{}, {Cols: []int{0}}, {Cols: []int{0, 0}}, {Cols: []int{0, 1}, Rows: [][]api.Val{nil, row(1), row(1, 2, 3)}}, {Cols: []int{most, least}}, {Rows: [][]api.Val{{{K: 9, N: 9}}}}}
	zeroOr := func(b api.Bag, ok bool) {
		t.Helper()
		if !ok && !isZero(b) {
			t.Fatalf("%v beside a false", b)
		}
	}
	for _, q := range queries {
		for _, b := range bags {
			zeroOr(means.Finish(q, b))
		}
		for _, c := range cats {
			for _, d := range datas {
				zeroOr(means.All(c, d, q))
				for _, x := range trees {
					zeroOr(means.Rows(c, d, q, x))
				}
				for _, b := range bags {
					one, two := means.Right(c, d, q, b), means.Right(c, d, q, b)
					if one != two {
						t.Fatalf("%v, and then %v", one, two)
					}
				}
			}
		}
	}
}
