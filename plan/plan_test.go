package plan_test

import (
	"math"
	"slices"
	"testing"

	"roadbook/api"
	"roadbook/plan"
	"roadbook/tree"
)

const (
	most, least = math.MaxInt, math.MinInt
	top         = 1 << 50
)

func col(i int) api.Expr { return api.Expr{Op: api.Col, Col: i} }

func same(a, b int) api.Expr { return api.Expr{Op: api.Same, L: []api.Expr{col(a), col(b)}} }

func below(a, b int) api.Expr { return api.Expr{Op: api.Below, L: []api.Expr{col(a), col(b)}} }

func scan(occ int) api.Plan { return api.Plan{Occ: occ} }

func sorted(i int, p api.Plan) api.Plan {
	return api.Plan{Op: api.Sort, Pair: [2]int{i, 0}, L: []api.Plan{p}}
}

func nest(a, b api.Plan) api.Plan { return api.Plan{Op: api.Nest, L: []api.Plan{a, b}} }

func hash(x, y int, a, b api.Plan) api.Plan {
	return api.Plan{Op: api.Hash, Pair: [2]int{x, y}, L: []api.Plan{a, b}}
}

func merge(x, y int, a, b api.Plan) api.Plan {
	return api.Plan{Op: api.Merge, Pair: [2]int{x, y}, L: []api.Plan{a, b}}
}

// inOrder merges two, each of which it puts in order ahead.
func inOrder(x, y int, a, b api.Plan) api.Plan { return merge(x, y, sorted(x, a), sorted(y, b)) }

// sorts is p sorted by a column so many times.
func sorts(n, i int, p api.Plan) api.Plan {
	for range n {
		p = sorted(i, p)
	}
	return p
}

// made is one of an Op, and plans, by a pair.
func made(op int, pair [2]int, l ...api.Plan) api.Plan { return api.Plan{Op: op, Pair: pair, L: l} }

// ring has itself for a plan, behind, if behind is set.
func ring(op int, behind bool) api.Plan {
	p := made(op, [2]int{}, scan(0), scan(1))
	i := 0
	if behind {
		i = 1
	}
	p.L[i] = p
	return p
}

// fork has itself for all its plans, of which there are so many.
func fork(op, plans int) api.Plan {
	p := made(op, [2]int{}, make([]api.Plan, plans)...)
	for i := range p.L {
		p.L[i] = p
	}
	return p
}

// tables are four: of 100, 10, 1000 and 1 rows.
func tables() api.Cat {
	return api.Cat{T: []api.Def{{Cols: 2, Rows: 100}, {Cols: 1, Rows: 10}, {Cols: 3, Rows: 1000}, {Cols: 1, Rows: 1}}}
}

// told asks for the first column of these occurrences, of which these expressions are true, in order by a column.
func told(ord int, occ []int, l ...api.Expr) api.Query {
	q := api.Query{Occ: occ, P: l, By: -1, Out: []int{0}, Ord: ord}
	if ord > 0 {
		q.Out = append(q.Out, ord)
	}
	return q
}

// groups is q in groups by a column, in order by ord.
func groups(by, ord int, q api.Query) api.Query {
	q.By, q.Sums, q.Out, q.Ord = by, []int{0}, nil, ord
	return q
}

// two asks for the tables of 100 and of 10 rows, with a pair.
func two() api.Query { return told(-1, []int{0, 1}, same(4, 0)) }

// four asks for all tables, with three pairs, and an expression that is none.
func four() api.Query {
	return told(-1, []int{0, 1, 2, 3}, same(0, 4), same(8, 1), same(10, 12), below(4, 9))
}

// formed are plans that have their form, many of which are of no query that may be.
func formed() []api.Plan {
	return []api.Plan{
		{}, scan(0), scan(3), scan(4), scan(-1), scan(most), scan(least), {Occ: 2, L: []api.Plan{}},
		sorted(0, scan(0)), sorted(-1, scan(0)), sorted(16, scan(2)), sorted(most, scan(0)), sorted(least, scan(-7)), sorted(3, sorted(2, scan(1))),
		nest(scan(0), scan(1)), nest(scan(0), scan(0)), nest(scan(9), sorted(5, scan(-9))), nest(nest(scan(3), scan(2)), nest(scan(1), scan(0))),
		hash(0, 4, scan(0), scan(1)), hash(0, 0, scan(0), scan(1)), hash(most, least, scan(0), scan(0)), hash(0, -1, scan(1), scan(0)), hash(-1, 0, scan(1), scan(0)),
		merge(0, 4, scan(0), scan(1)), merge(0, 0, scan(0), scan(1)), merge(least, most, scan(2), scan(2)), merge(7, 0, nest(scan(0), scan(1)), hash(5, 9, scan(2), scan(3))),
		sorts(18, 0, scan(0)), sorts(19, 0, scan(0)), sorts(19, 15, scan(9)), sorts(17, 1, nest(scan(0), scan(1))), nest(sorts(17, 1, scan(0)), scan(1)), nest(scan(0), sorts(17, 1, scan(1))), merge(3, 8, sorts(9, 3, scan(0)), sorts(8, 8, scan(2))), hash(1, 2, sorts(12, 3, hash(3, 4, scan(0), scan(1))), sorts(3, 8, scan(2))), wide(10, false), wide(10, true), sorted(0, wide(10, false)), sorted(7, wide(10, true)),
	}
}

// wide is of so many Scans, by Nests, one behind the other, or ahead.
func wide(scans int, ahead bool) api.Plan {
	p := scan(0)
	for i := 1; i < scans; i++ {
		if ahead {
			p = nest(scan(i%4), p)
		} else {
			p = nest(p, scan(i%4))
		}
	}
	return p
}

// formless are plans that have not their form, most of them for one cause.
func formless() []api.Plan {
	a, b := scan(0), scan(1)
	l := []api.Plan{
		{Op: -1}, {Op: 5}, {Op: 6}, {Op: most}, {Op: least}, made(-1, [2]int{}, a, b), made(5, [2]int{}, a, b), made(5, [2]int{}, a), made(least, [2]int{}, a), made(api.Scan+256, [2]int{}),
		made(api.Scan, [2]int{}, a), made(api.Scan, [2]int{}, a, b), made(api.Scan, [2]int{}, make([]api.Plan, 1000)...),
		made(api.Nest, [2]int{}), made(api.Nest, [2]int{}, a), made(api.Nest, [2]int{}, a, b, scan(2)), made(api.Nest, [2]int{}, make([]api.Plan, 1000)...),
		made(api.Hash, [2]int{0, 4}), made(api.Hash, [2]int{0, 4}, a), made(api.Hash, [2]int{0, 4}, a, b, scan(2)), {Op: api.Hash, Pair: [2]int{0, 4}, L: []api.Plan{}},
		made(api.Merge, [2]int{0, 4}), made(api.Merge, [2]int{0, 4}, sorted(0, a)), made(api.Merge, [2]int{0, 4}, sorted(0, a), sorted(4, b), scan(2)),
		made(api.Sort, [2]int{}), made(api.Sort, [2]int{}, a, b), {Op: api.Sort, L: []api.Plan{}}, made(api.Sort, [2]int{}, a, b, scan(2)),
		{Occ: 1, Op: api.Nest, L: []api.Plan{a, b}}, {Occ: -1, Op: api.Nest, L: []api.Plan{a, b}}, {Occ: 1, Op: api.Hash, Pair: [2]int{0, 4}, L: []api.Plan{a, b}}, {Occ: most, Op: api.Merge, Pair: [2]int{0, 4}, L: []api.Plan{sorted(0, a), sorted(4, b)}}, {Occ: 1, Op: api.Sort, L: []api.Plan{a}}, {Occ: least, Op: api.Sort, L: []api.Plan{a}},
		{Pair: [2]int{1, 0}}, {Pair: [2]int{0, 1}}, {Pair: [2]int{0, -1}}, {Occ: 1, Pair: [2]int{4, 4}}, {Pair: [2]int{least, most}},
		made(api.Nest, [2]int{1, 0}, a, b), made(api.Nest, [2]int{0, 1}, a, b), made(api.Nest, [2]int{0, 4}, a, b), made(api.Nest, [2]int{-1, 0}, a, b), made(api.Nest, [2]int{0, -1}, a, b),
		made(api.Sort, [2]int{0, 1}, a), made(api.Sort, [2]int{1, 1}, a), made(api.Sort, [2]int{0, -1}, a), made(api.Sort, [2]int{0, most}, a),
		sorts(20, 0, scan(0)), sorts(21, 0, scan(0)), sorts(1000, 0, scan(0)), sorts(1<<16, 0, scan(0)), nest(sorts(18, 1, scan(0)), scan(1)), nest(scan(0), sorts(18, 1, scan(1))), merge(3, 8, sorts(9, 3, scan(0)), sorts(9, 8, scan(2))), sorts(2, 0, wide(10, false)), nest(sorted(1, wide(9, false)), sorted(2, scan(0))), wide(11, false), wide(11, true), wide(1<<15, false), wide(1<<15, true),
		ring(api.Nest, false), ring(api.Nest, true), ring(api.Hash, false), ring(api.Merge, true), fork(api.Scan, 1), fork(api.Sort, 1), fork(api.Nest, 2), fork(api.Hash, 2), fork(api.Merge, 2), fork(api.Merge, 3), fork(9, 2),
	}
	for _, p := range slices.Clone(l) {
		l = append(l, sorted(0, p), nest(p, scan(3)), hash(0, 4, scan(3), p), nest(scan(2), sorted(8, nest(p, scan(3)))))
	}
	return l
}

// P11.1
func TestFew(t *testing.T) {
	for i, p := range formed() {
		if !plan.Few(p) {
			t.Errorf("%d has not its form", i)
		}
	}
	for i, p := range formless() {
		if plan.Few(p) {
			t.Errorf("%d has its form", i)
		}
	}
}

// P11.1
func TestTree(t *testing.T) {
	for i, x := range []struct {
		p    api.Plan
		text string
	}{
		{api.Plan{}, "0"}, {scan(0), "0"}, {scan(1), "1"}, {scan(3), "3"}, {api.Plan{Occ: 2, L: []api.Plan{}}, "2"}, {sorted(0, scan(0)), "0"}, {sorted(99, scan(2)), "2"}, {sorts(19, -5, scan(3)), "3"},
		{nest(scan(0), scan(1)), "(01)"}, {nest(scan(1), scan(0)), "(10)"}, {hash(0, 4, scan(0), scan(1)), "(01)"}, {hash(-4, 77, scan(3), scan(1)), "(31)"}, {merge(0, 4, scan(2), scan(1)), "(21)"}, {inOrder(0, 4, scan(0), scan(1)), "(01)"}, {sorted(1, nest(scan(1), scan(3))), "(13)"},
		{nest(nest(scan(0), scan(1)), scan(2)), "((01)2)"}, {nest(scan(2), hash(1, 2, scan(0), scan(1))), "(2(01))"}, {nest(sorted(3, sorted(4, nest(scan(3), sorted(5, scan(0))))), merge(8, 9, scan(2), scan(1))), "((30)(21))"}, {hash(0, 0, scan(3), merge(0, 0, scan(2), sorted(0, nest(scan(1), scan(0))))), "(3(2(10)))"}, {wide(4, false), "(((01)2)3)"}, {wide(4, true), "(3(2(10)))"},
		{scan(4), ""}, {scan(-1), ""}, {scan(64), ""}, {scan(most), ""}, {scan(least), ""}, {sorted(0, scan(4)), ""}, {nest(scan(0), scan(4)), ""}, {hash(0, 4, scan(-1), scan(0)), ""}, {nest(nest(scan(0), scan(1)), nest(scan(2), scan(5))), ""},
		{nest(scan(0), scan(0)), ""}, {hash(0, 0, scan(3), scan(3)), ""}, {merge(0, 0, sorted(0, scan(1)), sorted(0, scan(1))), ""}, {nest(nest(scan(0), scan(1)), scan(1)), ""}, {nest(scan(2), sorted(0, nest(scan(1), scan(2)))), ""}, {nest(nest(scan(0), scan(1)), nest(scan(2), scan(0))), ""}, {wide(5, false), ""}, {wide(10, true), ""},
	} {
		got, ok := plan.Tree(x.p)
		if ok != (x.text != "") || tree.Text(got) != x.text && ok || !ok && (got.Occ != 0 || len(got.L) != 0) {
			t.Errorf("%d: %s, %v, not %q", i, tree.Text(got), ok, x.text)
		}
	}
	for i, p := range formless() {
		if got, ok := plan.Tree(p); ok || got.Occ != 0 || len(got.L) != 0 {
			t.Errorf("%d has not its form, but a tree: %v, %v", i, got, ok)
		}
	}
}

// P11.1: just one part, or just the order, is another one.
func TestSame(t *testing.T) {
	base := func() api.Plan {
		return merge(1, 8, sorted(1, hash(0, 4, scan(0), scan(1))), api.Plan{Op: 7, Occ: 5, Pair: [2]int{3, -3}, L: []api.Plan{scan(2), scan(-3), sorted(8, scan(2))}})
	}
	if !plan.Same(base(), base()) {
		t.Error("it is not the same as itself")
	}
	for i, change := range []func(p *api.Plan){
		func(p *api.Plan) { p.Op = api.Hash }, func(p *api.Plan) { p.Occ = 1 }, func(p *api.Plan) { p.Pair[0] = 0 }, func(p *api.Plan) { p.Pair[1] = 1 }, func(p *api.Plan) { p.Pair = [2]int{8, 1} },
		func(p *api.Plan) { p.L = nil }, func(p *api.Plan) { p.L = p.L[:1] }, func(p *api.Plan) { p.L = append(p.L, scan(0)) }, func(p *api.Plan) { slices.Reverse(p.L) },
		func(p *api.Plan) { p.L[0].Op = 9 }, func(p *api.Plan) { p.L[0].Pair[0] = 2 }, func(p *api.Plan) { p.L[0].L = nil }, func(p *api.Plan) { p.L[0].L[0].Pair[1]++ }, func(p *api.Plan) { slices.Reverse(p.L[0].L[0].L) }, func(p *api.Plan) { p.L[0].L[0].L[1].Occ = 3 }, func(p *api.Plan) { p.L[0].L[0].L[1].L = []api.Plan{scan(0)} },
		func(p *api.Plan) { p.L[1].Op++ }, func(p *api.Plan) { p.L[1].Occ = most }, func(p *api.Plan) { p.L[1].Pair[1] = 3 }, func(p *api.Plan) { p.L[1].L = p.L[1].L[:2] }, func(p *api.Plan) { p.L[1].L[1].Occ = 3 }, func(p *api.Plan) { p.L[1].L[2].Op = api.Scan }, func(p *api.Plan) { p.L[1].L[2].Pair[1] = least }, func(p *api.Plan) { p.L[1].L[2].L[0].Occ = 0 }, func(p *api.Plan) { p.L[1].L[2].L[0].Pair[0] = 1 },
	} {
		other := base()
		change(&other)
		if plan.Same(base(), other) || plan.Same(other, base()) {
			t.Errorf("%d: they are the same", i)
		}
		if !plan.Same(other, other) {
			t.Errorf("%d is not the same as itself", i)
		}
	}
	if !plan.Same(scan(2), api.Plan{Occ: 2, L: []api.Plan{}}) || !plan.Same(sorted(0, scan(0)), sorted(0, api.Plan{L: []api.Plan{}})) {
		t.Error("R6: a nil list and an empty one are not the same")
	}
}

// P11.1: whether they have their form is not asked.
func TestSameWithoutForm(t *testing.T) {
	for i, anew := range []func() api.Plan{
		func() api.Plan { return scan(-1) }, func() api.Plan { return api.Plan{Op: most} }, func() api.Plan { return sorts(20, 0, scan(1)) }, func() api.Plan { return sorts(1<<16-1, 3, scan(1)) }, func() api.Plan { return wide(1<<15, false) }, func() api.Plan { return wide(1<<15, true) }, func() api.Plan { return made(api.Nest, [2]int{1, 1}, slices.Repeat([]api.Plan{scan(1)}, 100000)...) },
	} {
		a, b := anew(), anew()
		if !plan.Same(a, b) {
			t.Errorf("%d is not the same as itself", i)
		}
		last := &b
		for len(last.L) > 0 {
			last = &last.L[len(last.L)-1]
		}
		last.Pair[1]--
		if plan.Same(a, b) || plan.Same(b, a) {
			t.Errorf("%d is the same as another one", i)
		}
	}
	if plan.Same(sorts(20, 0, scan(0)), sorts(21, 0, scan(0))) || plan.Same(wide(11, false), wide(11, true)) || plan.Same(api.Plan{Op: -1}, api.Plan{Op: 5}) {
		t.Error("two without form are the same")
	}
}

// P11.2: of each Op.
func TestOrder(t *testing.T) {
	for i, x := range []struct {
		p    api.Plan
		want int
	}{
		{api.Plan{}, -1}, {scan(0), -1}, {scan(3), -1}, {scan(4), -1}, {scan(-2), -1},
		{sorted(0, scan(0)), 0}, {sorted(4, scan(0)), 4}, {sorted(15, scan(0)), 15}, {sorted(99, scan(0)), 99}, {sorted(-1, scan(0)), -1}, {sorted(-7, scan(0)), -7}, {sorted(3, sorted(5, scan(0))), 3}, {sorted(3, inOrder(0, 4, scan(0), scan(1))), 3}, {sorts(19, 6, scan(0)), 6},
		{hash(0, 4, scan(0), scan(1)), -1}, {hash(0, 4, sorted(0, scan(0)), sorted(4, scan(1))), -1}, {hash(3, 3, inOrder(0, 4, scan(0), scan(1)), scan(2)), -1},
		{merge(0, 4, scan(0), scan(1)), 0}, {merge(4, 0, scan(0), scan(1)), 4}, {merge(7, 9, sorted(5, scan(0)), sorted(6, scan(0))), 7}, {merge(-3, 2, scan(8), scan(8)), -3}, {merge(most, 0, scan(0), scan(1)), most}, {sorted(1, merge(0, 4, scan(0), scan(1))), 1},
		{nest(scan(0), scan(1)), -1}, {nest(sorted(2, scan(0)), scan(1)), 2}, {nest(scan(0), sorted(2, scan(1))), -1}, {nest(sorted(2, scan(0)), sorted(3, scan(1))), 2}, {nest(inOrder(5, 4, scan(0), scan(1)), scan(2)), 5}, {nest(hash(5, 4, scan(0), scan(1)), sorted(2, scan(2))), -1}, {nest(nest(sorted(6, scan(0)), scan(1)), sorted(7, scan(2))), 6}, {nest(nest(scan(0), sorted(6, scan(1))), scan(2)), -1}, {nest(sorted(6, scan(0)), sorted(6, scan(0))), 6}, {nest(sorts(17, 9, scan(0)), scan(1)), 9},
	} {
		if got := plan.Order(x.p); got != x.want {
			t.Errorf("%d: %d, not %d", i, got, x.want)
		}
	}
	for i, p := range formless() {
		if got := plan.Order(p); got != -1 {
			t.Errorf("%d has not its form, but the order %d", i, got)
		}
	}
}

// asked is a plan of a query, and what it costs there.
type asked struct {
	q    api.Query
	p    api.Plan
	cost int
}

// may are plans that may be by tables.
func may() []asked {
	one, pair, all := told(-1, []int{2}), two(), four()
	twice := told(-1, []int{0, 1}, same(0, 4), same(4, 1))
	return []asked{
		{one, api.Plan{}, 1000}, {one, sorted(0, scan(0)), 11000}, {one, sorted(2, scan(0)), 11000}, {one, sorted(1, sorted(2, scan(0))), 21000}, {one, sorts(19, 1, scan(0)), 191000}, {groups(2, 2, one), sorted(2, scan(0)), 11000}, {told(-1, []int{2}, below(0, 1)), sorted(2, scan(0)), 3997},
		{pair, scan(0), 100}, {pair, scan(1), 10}, {pair, sorted(0, scan(0)), 800}, {pair, sorted(1, scan(0)), 800}, {pair, sorted(4, scan(1)), 50},
		{pair, nest(scan(0), scan(1)), 1110}, {pair, nest(scan(1), scan(0)), 1110}, {pair, nest(sorted(1, scan(0)), scan(1)), 1810}, {pair, nest(scan(0), sorted(4, scan(1))), 1150}, {pair, sorted(4, nest(scan(0), scan(1))), 1810}, {pair, sorted(0, nest(scan(1), scan(0))), 1810},
		{pair, hash(0, 4, scan(0), scan(1)), 230}, {pair, hash(4, 0, scan(1), scan(0)), 320}, {pair, hash(0, 4, sorted(1, scan(0)), sorted(4, scan(1))), 970}, {pair, sorted(1, hash(0, 4, scan(0), scan(1))), 930},
		{pair, inOrder(0, 4, scan(0), scan(1)), 960}, {pair, inOrder(4, 0, scan(1), scan(0)), 960}, {pair, merge(0, 4, sorts(2, 0, scan(0)), sorted(4, sorted(4, scan(1)))), 1700}, {pair, sorted(0, inOrder(0, 4, scan(0), scan(1))), 1660}, {pair, merge(0, 4, sorted(0, sorted(1, scan(0))), sorted(4, scan(1))), 1660},
		{twice, hash(0, 4, scan(0), scan(1)), 230}, {twice, hash(1, 4, scan(0), scan(1)), 230}, {twice, inOrder(4, 1, scan(1), scan(0)), 960}, {twice, sorted(0, inOrder(4, 1, scan(1), scan(0))), 1000},
		{told(-1, []int{1, 1}, same(0, 4), below(0, 4)), nest(sorted(0, scan(0)), scan(1)), 160}, {told(-1, []int{0, 0}, below(0, 1)), nest(scan(0), scan(1)), 3500}, {groups(1, -1, told(-1, []int{0, 1}, below(0, 1), same(0, 4))), hash(4, 0, scan(1), sorted(1, scan(0))), 384},
		{all, nest(scan(1), scan(3)), 21}, {all, nest(nest(nest(scan(0), scan(1)), scan(2)), scan(3)), 105444}, {all, hash(1, 8, hash(0, 4, scan(0), scan(1)), hash(10, 12, scan(2), scan(3))), 2533}, {all, hash(8, 1, hash(10, 12, scan(2), scan(3)), hash(0, 4, scan(0), scan(1))), 2533},
		{all, inOrder(8, 1, hash(10, 12, scan(2), scan(3)), inOrder(0, 4, scan(0), scan(1))), 4563}, {all, merge(0, 4, nest(sorted(0, scan(0)), scan(2)), sorted(4, scan(1))), 111860}, {all, merge(10, 12, nest(sorted(10, scan(2)), scan(1)), sorted(12, scan(3))), 24346},
	}
}

// mayNot are plans that may not be by tables, most of them for one cause.
func mayNot() []asked {
	one, pair, all := told(-1, []int{2}), two(), four()
	within := told(-1, []int{0, 1}, same(0, 1))
	threes := told(-1, []int{0, 1, 2}, api.Expr{Op: api.All, L: []api.Expr{same(0, 4), col(8)}})
	zero, ten := sorted(0, scan(0)), sorted(10, scan(2))
	l := []asked{
		{q: one, p: scan(1)}, {q: one, p: scan(3)}, {q: pair, p: scan(2)}, {q: pair, p: scan(3)}, {q: one, p: nest(scan(0), scan(1))}, {q: pair, p: nest(scan(0), scan(2))}, {q: pair, p: nest(scan(3), scan(1))}, {q: pair, p: nest(nest(scan(0), scan(1)), scan(2))}, {q: pair, p: sorted(8, scan(2))}, {q: pair, p: sorted(0, nest(scan(2), scan(0)))}, {q: pair, p: hash(0, 4, scan(0), nest(scan(1), scan(2)))},
		{q: pair, p: scan(4)}, {q: all, p: scan(4)}, {q: all, p: scan(-1)}, {q: all, p: nest(scan(0), scan(0))}, {q: all, p: nest(nest(scan(0), scan(1)), nest(scan(2), scan(0)))}, {q: all, p: wide(5, false)},
		{q: pair, p: sorted(4, scan(0))}, {q: pair, p: sorted(0, scan(1))}, {q: pair, p: sorted(2, scan(0))}, {q: pair, p: sorted(3, scan(0))}, {q: pair, p: sorted(5, scan(1))}, {q: pair, p: sorted(8, nest(scan(0), scan(1)))}, {q: pair, p: sorted(-1, scan(0))}, {q: pair, p: sorted(16, scan(0))}, {q: pair, p: sorted(most, scan(0))}, {q: pair, p: sorted(least, scan(0))}, {q: one, p: sorted(3, scan(0))}, {q: all, p: sorted(12, nest(scan(0), scan(2)))},
		{q: pair, p: sorted(0, sorted(4, scan(0)))}, {q: pair, p: sorted(4, sorted(0, scan(0)))}, {q: pair, p: nest(sorted(4, scan(0)), scan(1))}, {q: pair, p: nest(scan(0), sorted(0, scan(1)))}, {q: pair, p: hash(0, 4, scan(0), sorted(1, scan(1)))}, {q: pair, p: sorted(2, inOrder(0, 4, scan(0), scan(1)))},
		{q: pair, p: hash(4, 0, scan(0), scan(1))}, {q: pair, p: hash(0, 4, scan(1), scan(0))}, {q: pair, p: hash(0, 0, scan(0), scan(1))}, {q: pair, p: hash(1, 4, scan(0), scan(1))}, {q: pair, p: hash(0, 5, scan(0), scan(1))}, {q: pair, p: hash(4, 4, scan(0), scan(1))}, {q: pair, p: hash(0, -1, scan(0), scan(1))}, {q: pair, p: hash(most, least, scan(0), scan(1))}, {q: told(-1, []int{0, 1}), p: hash(0, 4, scan(0), scan(1))}, {q: told(-1, []int{0, 1}, below(0, 4)), p: hash(0, 4, scan(0), scan(1))}, {q: within, p: hash(0, 1, scan(0), scan(1))}, {q: threes, p: hash(0, 4, nest(scan(0), scan(2)), scan(1))},
		{q: all, p: hash(0, 4, scan(0), scan(2))}, {q: all, p: hash(1, 4, scan(0), scan(1))}, {q: all, p: hash(0, 8, scan(0), scan(2))}, {q: all, p: hash(0, 4, nest(scan(0), scan(1)), scan(2))}, {q: all, p: hash(0, 4, scan(2), nest(scan(0), scan(1)))}, {q: all, p: nest(hash(4, 0, scan(0), scan(1)), scan(2))}, {q: all, p: nest(scan(2), hash(4, 0, scan(0), scan(1)))}, {q: all, p: sorted(0, hash(4, 0, scan(0), scan(1)))}, {q: all, p: hash(10, 12, hash(1, 8, scan(0), scan(1)), hash(0, 0, scan(2), scan(3)))},
		{q: pair, p: inOrder(4, 0, scan(0), scan(1))}, {q: pair, p: inOrder(0, 4, scan(1), scan(0))}, {q: pair, p: merge(4, 0, zero, sorted(4, scan(1)))}, {q: pair, p: merge(0, 4, sorted(4, scan(1)), zero)}, {q: told(-1, []int{0, 1}), p: inOrder(0, 4, scan(0), scan(1))}, {q: pair, p: inOrder(1, 4, scan(0), scan(1))}, {q: all, p: inOrder(0, 8, scan(0), scan(2))},
		{q: pair, p: merge(0, 4, scan(0), scan(1))}, {q: pair, p: merge(0, 4, zero, scan(1))}, {q: pair, p: merge(0, 4, scan(0), sorted(4, scan(1)))}, {q: pair, p: merge(0, 4, sorted(1, scan(0)), sorted(4, scan(1)))}, {q: pair, p: merge(0, 4, sorted(1, zero), sorted(4, scan(1)))}, {q: told(-1, []int{0, 0}, same(0, 4)), p: merge(0, 4, zero, sorted(5, scan(1)))},
		{q: all, p: merge(0, 4, nest(scan(2), zero), sorted(4, scan(1)))}, {q: all, p: merge(0, 4, zero, nest(scan(2), sorted(4, scan(1))))}, {q: all, p: merge(8, 1, inOrder(10, 12, scan(2), scan(3)), sorted(1, scan(0)))}, {q: all, p: merge(1, 8, sorted(1, scan(0)), inOrder(10, 12, scan(2), scan(3)))}, {q: all, p: merge(10, 12, hash(8, 1, ten, scan(0)), sorted(12, scan(3)))}, {q: all, p: nest(merge(0, 4, scan(0), sorted(4, scan(1))), scan(2))},
	}
	for _, p := range formless() {
		l = append(l, asked{q: pair, p: p})
	}
	for _, x := range may() {
		for _, q := range wrongQueries(x.q) {
			l = append(l, asked{q: q, p: x.p})
		}
	}
	return l
}

// wrongQueries are q, which may be by tables, with one thing each by which it may not be.
func wrongQueries(q api.Query) []api.Query {
	var l []api.Query
	for _, change := range []func(q *api.Query){
		func(q *api.Query) { q.Occ = append(slices.Clip(q.Occ), 0, 0, 0, 0) }, func(q *api.Query) { q.Occ = append(slices.Clip(q.Occ[1:]), 4) }, func(q *api.Query) { q.Occ = append([]int{-1}, q.Occ[1:]...) },
		func(q *api.Query) { q.P = append(slices.Clip(q.P), api.Expr{}) }, func(q *api.Query) { q.P = append(slices.Clip(q.P), col(15)) }, func(q *api.Query) { q.P = append(slices.Clip(q.P), api.Expr{Op: api.Same}) }, func(q *api.Query) { q.P = append(slices.Clip(q.P), slices.Repeat([]api.Expr{col(0)}, 7)...) },
		func(q *api.Query) { q.By = -2 }, func(q *api.Query) { q.By = 15 }, func(q *api.Query) { q.Ord = -2 }, func(q *api.Query) { q.Ord = 15 }, func(q *api.Query) { q.Out = append(slices.Clip(q.Out), 15) }, func(q *api.Query) { q.Out, q.Sums = []int{0}, []int{0} }, func(q *api.Query) { q.Out, q.By = nil, -1 },
	} {
		other := q
		change(&other)
		l = append(l, other)
	}
	return append(l, api.Query{}, api.Query{By: -1, Out: []int{0}, Ord: -1})
}

// wrongCats may not be, or lack what the query of two has.
func wrongCats() []api.Cat {
	d := api.Def{Cols: 2, Rows: 100}
	return []api.Cat{
		{}, {T: []api.Def{}}, {T: []api.Def{d}}, {T: []api.Def{d, {}}}, {T: []api.Def{d, {Cols: 1}}}, {T: []api.Def{d, {Rows: 9}}}, {T: []api.Def{d, {Cols: 5, Rows: 9}}}, {T: []api.Def{d, {Cols: 1, Rows: 1000001}}}, {T: []api.Def{d, {Cols: 1, Rows: -1}}}, {T: []api.Def{d, d, d, d, d}}, {T: []api.Def{d, d, {Cols: most, Rows: least}}},
	}
}

// P11.3, P11.4
func TestMayAndCost(t *testing.T) {
	for i, x := range may() {
		if !plan.May(tables(), x.q, x.p) {
			t.Errorf("%d may not be", i)
		}
		if got := plan.Cost(tables(), x.q, x.p); got != x.cost {
			t.Errorf("%d: %d, not %d", i, got, x.cost)
		}
	}
}

// P11.3, P11.4: nor is it fine, whatever is done with it.
func TestMayNot(t *testing.T) {
	tellsNothing := func(what string, i int, c api.Cat, q api.Query, p api.Plan) {
		t.Helper()
		if plan.May(c, q, p) {
			t.Errorf("%s %d may be", what, i)
		}
		if got := plan.Cost(c, q, p); got != top {
			t.Errorf("%s %d may not be, but costs %d", what, i, got)
		}
		for end := range api.Ends {
			for _, s := range []bool{false, true} {
				w := api.Whole{P: p, End: end, Sort: s}
				if plan.Fine(c, q, w) || plan.All(c, q, w) != top {
					t.Errorf("%s %d, end %d, sort %v: %v, %d", what, i, end, s, plan.Fine(c, q, w), plan.All(c, q, w))
				}
			}
		}
	}
	for i, x := range mayNot() {
		tellsNothing("plan", i, tables(), x.q, x.p)
	}
	for i, c := range wrongCats() {
		for j, p := range []api.Plan{scan(0), nest(scan(0), scan(1)), inOrder(0, 4, scan(0), scan(1))} {
			tellsNothing("catalog", 10*i+j, c, two(), p)
		}
	}
}

// tablesOf is a catalog of tables with so many rows.
func tablesOf(rows ...int) api.Cat {
	var c api.Cat
	for _, n := range rows {
		c.T = append(c.T, api.Def{Cols: 1, Rows: n})
	}
	return c
}

// P11.4: no more than 2^50, though no part alone costs as much, or though one does.
func TestCostAtTheTop(t *testing.T) {
	three, four := told(-1, []int{0, 1, 2}), told(-1, []int{0, 1, 2, 3})
	row := nest(nest(scan(0), scan(1)), scan(2))
	for i, x := range []struct {
		c    api.Cat
		q    api.Query
		p    api.Plan
		want int
	}{
		{tablesOf(7382, 388311, 392776), three, row, top - 1}, {tablesOf(5828, 367446, 525758), three, row, top}, {tablesOf(5458, 271643, 759394), three, row, top}, {tablesOf(7382, 388311, 392776), three, sorted(0, row), top}, {tablesOf(7382, 388311, 392776, 1), four, row, top - 1}, {tablesOf(7382, 388311, 392776, 1), four, nest(row, scan(3)), top},
		{tablesOf(1000000, 1000000, 1124), three, row, 1125000002001124}, {tablesOf(1000000, 1000000, 1125), three, row, top}, {tablesOf(1000000, 1000000, 1125), three, nest(scan(2), nest(scan(1), scan(0))), top}, {tablesOf(1000000, 1000000, 1126), three, row, top},
		{tablesOf(1000000, 1000000, 1000000, 1000000), four, nest(row, scan(3)), top}, {tablesOf(1000000, 1000000, 1000000, 1000000), four, nest(nest(scan(0), scan(1)), nest(scan(2), scan(3))), top}, {tablesOf(1000000, 1000000, 1000000, 1000000), four, sorts(9, 0, nest(nest(scan(3), scan(2)), nest(scan(1), scan(0)))), top}, {tablesOf(1000000, 1000000, 1000000, 1000000), four, nest(scan(2), scan(3)), 1000002000000},
		{tablesOf(1000000, 1000000, 500, 1000000), told(-1, []int{0, 1, 2, 3}, same(0, 4)), nest(row, scan(3)), top}, {tablesOf(1000000, 1000000, 500, 1), told(-1, []int{0, 1, 2, 3}, same(0, 4)), nest(row, scan(3)), 51000002000501 + 109951162777}, {tablesOf(1000000, 1000000), told(-1, []int{0, 1}), sorts(17, 0, nest(scan(0), scan(1))), 1000002000000 + 17*40*1000000000000},
	} {
		if !plan.May(x.c, x.q, x.p) {
			t.Errorf("%d may not be", i)
		}
		if got := plan.Cost(x.c, x.q, x.p); got != x.want {
			t.Errorf("%d: %d, not %d", i, got, x.want)
		}
	}
}

// ends is what a query asks for at last, and of which ends it costs what, of a plan that is in no order, in that of column 0, of 4, and of 1: nothing, if it may not be done so.
type ends struct {
	q    api.Query
	end  int
	sort bool
	cost [4]int
}

// P11.5: each end, with and without By, Ord, and Sort, of plans in each order.
func TestFineAndAll(t *testing.T) {
	base := told(-1, []int{0, 1}, same(0, 4))
	plain, inZero, byZero, byZeroInOrder := base, told(0, base.Occ, base.P...), groups(0, -1, base), groups(0, 0, base)
	plans := [4]api.Plan{hash(0, 4, scan(0), scan(1)), inOrder(0, 4, scan(0), scan(1)), inOrder(4, 0, scan(1), scan(0)), sorted(1, hash(0, 4, scan(0), scan(1)))}
	fine := []ends{
		{plain, api.Told, false, [4]int{230, 960, 960, 930}},
		{inZero, api.Told, false, [4]int{0, 960}}, {told(4, base.Occ, base.P...), api.Told, false, [4]int{0, 0, 960}}, {told(1, base.Occ, base.P...), api.Told, false, [4]int{0, 0, 0, 930}},
		{byZero, api.Hashed, false, [4]int{430, 1160, 1160, 1130}}, {byZero, api.Ordered, false, [4]int{0, 1060}},
		{byZeroInOrder, api.Hashed, true, [4]int{530, 1260, 1260, 1230}}, {byZeroInOrder, api.Ordered, false, [4]int{0, 1060}},
		{groups(4, -1, base), api.Ordered, false, [4]int{0, 0, 1060}}, {groups(1, 1, base), api.Ordered, false, [4]int{0, 0, 0, 1030}}, {groups(4, 4, base), api.Hashed, true, [4]int{530, 1260, 1260, 1230}}, {groups(1, -1, base), api.Hashed, false, [4]int{430, 1160, 1160, 1130}},
	}
	for i, x := range fine {
		for j, p := range plans {
			tellsFine(t, 10*i+j, tables(), x.q, api.Whole{P: p, End: x.end, Sort: x.sort}, x.cost[j])
		}
	}
	for i, q := range []api.Query{plain, inZero, byZero, byZeroInOrder} {
		for _, end := range []int{least, -2, -1, api.Told, api.Hashed, api.Ordered, api.Ends, 4, most} {
			for _, s := range []bool{false, true} {
				// Those of the table are fine, and no other one is.
				listed := end == api.Told && !s && i < 2 || end == api.Hashed && (!s && i == 2 || s && i == 3) || end == api.Ordered && !s && i > 1
				for _, p := range plans {
					if !listed {
						tellsFine(t, 1000+i, tables(), q, api.Whole{P: p, End: end, Sort: s}, 0)
					}
				}
			}
		}
	}
}

// tellsFine asks whether it may be done so, at that cost: at none, if it may not.
func tellsFine(t *testing.T, i int, c api.Cat, q api.Query, w api.Whole, want int) {
	t.Helper()
	fine := plan.Fine(c, q, w)
	if fine != (want != 0) {
		t.Errorf("%d: end %d, sort %v, order %d: %v", i, w.End, w.Sort, plan.Order(w.P), fine)
	}
	if want == 0 {
		want = top
	}
	if got := plan.All(c, q, w); got != want {
		t.Errorf("%d: end %d, sort %v, order %d: %d, not %d", i, w.End, w.Sort, plan.Order(w.P), got, want)
	}
}

// P11.5: one occurrence, and four; and a plan that lacks one.
func TestFineOfAllOccurrences(t *testing.T) {
	one, all := told(-1, []int{2}), four()
	lacks := nest(nest(scan(0), scan(1)), scan(2))
	rows := hash(1, 8, hash(0, 4, scan(0), scan(1)), hash(10, 12, scan(2), scan(3)))
	for i, x := range []struct {
		q    api.Query
		w    api.Whole
		want int
	}{
		{one, api.Whole{}, 1000}, {one, api.Whole{P: sorted(1, scan(0))}, 11000}, {told(2, one.Occ), api.Whole{P: sorted(2, scan(0))}, 11000}, {told(2, one.Occ), api.Whole{P: sorted(0, scan(0))}, 0}, {told(2, one.Occ), api.Whole{}, 0}, {groups(1, -1, one), api.Whole{End: api.Hashed}, 3000}, {groups(1, 1, one), api.Whole{End: api.Hashed, Sort: true}, 4600}, {groups(1, 1, one), api.Whole{P: sorted(1, scan(0)), End: api.Ordered}, 12000}, {groups(1, 1, one), api.Whole{P: sorted(2, scan(0)), End: api.Ordered}, 0},
		{two(), api.Whole{P: scan(0)}, 0}, {two(), api.Whole{P: scan(1)}, 0}, {told(0, []int{0, 1}), api.Whole{P: sorted(0, scan(0))}, 0}, {groups(0, -1, two()), api.Whole{P: scan(0), End: api.Hashed}, 0}, {groups(0, 0, two()), api.Whole{P: scan(0), End: api.Hashed, Sort: true}, 0}, {groups(0, 0, two()), api.Whole{P: sorted(0, scan(0)), End: api.Ordered}, 0},
		{all, api.Whole{P: lacks}, 0}, {all, api.Whole{P: nest(lacks, scan(3))}, 105444}, {all, api.Whole{P: nest(scan(3), scan(2))}, 0}, {all, api.Whole{P: nest(scan(1), nest(scan(2), scan(3)))}, 0},
		{all, api.Whole{P: rows}, 2533}, {groups(12, -1, all), api.Whole{P: rows, End: api.Hashed}, 2533 + 2*333}, {groups(12, 12, all), api.Whole{P: rows, End: api.Hashed, Sort: true}, 2533 + 2*333 + 66*7}, {groups(12, 12, all), api.Whole{P: sorted(12, rows), End: api.Ordered}, 2533 + 333*9 + 333}, {groups(12, 12, all), api.Whole{P: sorted(10, rows), End: api.Ordered}, 0},
	} {
		tellsFine(t, i, tables(), x.q, x.w, x.want)
	}
}

// P11.5: it may be done so, but for no more than 2^50.
func TestAllAtTheTop(t *testing.T) {
	q := told(-1, []int{0, 1, 2})
	row := nest(nest(scan(0), scan(1)), scan(2))
	in := nest(nest(sorted(0, scan(0)), scan(1)), scan(2))
	for i, x := range []struct {
		rows int
		q    api.Query
		w    api.Whole
		want int
	}{
		{1124, q, api.Whole{P: row}, 1125000002001124}, {1125, q, api.Whole{P: row}, top}, {1124, groups(0, -1, q), api.Whole{P: row, End: api.Hashed}, top}, {1124, groups(0, -1, q), api.Whole{P: in, End: api.Ordered}, top},
		{1123, groups(0, -1, q), api.Whole{P: row, End: api.Hashed}, top}, {1123, groups(0, -1, q), api.Whole{P: in, End: api.Ordered}, 1124000002001123 + 20000000 + 1<<40}, {1122, groups(0, -1, q), api.Whole{P: row, End: api.Hashed}, 1123000002001122 + 1<<41}, {1122, groups(0, 0, q), api.Whole{P: row, End: api.Hashed, Sort: true}, top}, {1100, groups(0, 0, q), api.Whole{P: row, End: api.Hashed, Sort: true}, 1101000002001100 + 1<<41 + 38*219902325555}, {1000000, groups(0, 0, q), api.Whole{P: row, End: api.Hashed, Sort: true}, top},
	} {
		c := tablesOf(1000000, 1000000, x.rows)
		if !plan.Fine(c, x.q, x.w) {
			t.Errorf("%d: it may not be done so", i)
		}
		if got := plan.All(c, x.q, x.w); got != x.want {
			t.Errorf("%d: %d, not %d", i, got, x.want)
		}
	}
}

// P11.4: the chapter's example.
func TestExample(t *testing.T) {
	if got := plan.Cost(tables(), two(), nest(scan(0), scan(1))); got != 1110 {
		t.Errorf("a Nest of two Scans: %d", got)
	}
	if got := plan.Cost(tables(), two(), hash(0, 4, scan(0), scan(1))); got != 230 {
		t.Errorf("a Hash: %d", got)
	}
}
