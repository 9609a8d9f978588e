package expr_test

import (
	"math"
	"slices"
	"testing"

	"roadbook/api"
	"roadbook/expr"
)

var (
	null = api.Val{K: api.Null}
	bad  = api.Val{K: api.Bad}
)

func n(i int) api.Val { return api.Val{N: i} }

func num(i int) api.Expr { return api.Expr{Op: api.Const, V: n(i)} }

func con(v api.Val) api.Expr { return api.Expr{Op: api.Const, V: v} }

func col(i int) api.Expr { return api.Expr{Op: api.Col, Col: i} }

func of(op int, l ...api.Expr) api.Expr { return api.Expr{Op: op, L: l} }

// chain is one that is so many deep, and has as many parts.
func chain(deep int) api.Expr {
	e := num(1)
	for range deep - 1 {
		e = of(api.None, e)
	}
	return e
}

// many is an All of so many, each of them an All of four, and then of so many numbers.
func many(fours, numbers int) api.Expr {
	e := of(api.All)
	for range fours {
		e.L = append(e.L, of(api.All, num(1), num(1), num(1), num(1)))
	}
	for range numbers {
		e.L = append(e.L, num(1))
	}
	return e
}

// copied is e in memory of its own.
func copied(e api.Expr) api.Expr {
	var l []api.Expr
	for _, p := range e.L {
		l = append(l, copied(p))
	}
	e.L = l
	return e
}

// right are expressions that may be, at the edges of each limit.
func right() []api.Expr {
	l := []api.Expr{
		{}, num(7), num(math.MinInt), num(math.MaxInt), con(null), con(bad), col(0), col(15), {L: []api.Expr{}},
		of(api.None, num(1)), of(api.All), of(api.Any), chain(2), chain(6),
		of(api.All, many(4, 0), many(1, 2)),         // 1 + 21 + 8 are 30 parts
		of(api.Any, chain(5), chain(5), many(3, 0)), // 1 + 10 + 16, 6 deep
	}
	for op := api.Plus; op <= api.Below; op++ {
		l = append(l, of(op, num(1), col(2)), of(op, of(op, col(3), col(3)), con(null)))
	}
	for _, op := range []int{api.All, api.Any} {
		l = append(l, of(op, num(1)), of(op, num(1), num(2)), of(op, num(1), num(2), num(3)), of(op, num(1), num(2), num(3), col(4)))
	}
	return l
}

// wrong are expressions that may not be, each for one cause.
func wrong() []api.Expr {
	l := []api.Expr{
		{Op: -1}, {Op: api.Ops}, {Op: api.Ops + 1}, {Op: math.MinInt}, {Op: math.MaxInt},
		of(api.Const, num(1)), {Op: api.Col, L: []api.Expr{num(1)}},
		of(api.None), of(api.None, num(1), num(1)),
		of(api.All, num(1), num(1), num(1), num(1), num(1)), of(api.Any, num(1), num(1), num(1), num(1), num(1)),
		col(-1), col(16), col(math.MinInt), col(math.MaxInt),
		{Op: api.Const, Col: 1}, {Op: api.Const, Col: -1}, {Op: api.All, Col: 1},
		{Op: api.Col, V: n(1)}, {Op: api.Col, V: null}, {Op: api.Col, V: bad}, {Op: api.Any, V: n(1)}, {Op: api.All, V: null},
		con(api.Val{K: 3}), con(api.Val{K: -1}), con(api.Val{K: api.Null, N: 1}), con(api.Val{K: api.Bad, N: -1}),
		{Op: api.Col, V: api.Val{K: 3}},
		chain(7), chain(31), chain(1000),
		of(api.All, many(4, 0), many(1, 3)), // 1 + 21 + 9 are 31 parts
		of(api.Plus, num(1), chain(6)),
		loop(),
	}
	for op := api.Plus; op <= api.Below; op++ {
		l = append(l, of(op), of(op, num(1)), of(op, num(1), num(1), num(1)))
		l = append(l, api.Expr{Op: op, Col: 1, L: []api.Expr{num(1), num(1)}}, api.Expr{Op: op, V: n(1), L: []api.Expr{num(1), num(1)}})
	}
	for _, e := range slices.Clone(l) {
		l = append(l, of(api.None, e), of(api.All, num(1), num(0), e), of(api.Plus, e, num(1)), of(api.Same, col(1), e))
	}
	return l
}

// loop has itself for a part.
func loop() api.Expr {
	e := of(api.None, num(0))
	e.L[0] = e
	return e
}

// P2.1
func TestMay(t *testing.T) {
	for i, e := range right() {
		if !expr.May(e) {
			t.Errorf("%d: %v may not be", i, e)
		}
	}
	for i, e := range wrong() {
		if expr.May(e) {
			t.Errorf("%d may be", i)
		}
	}
}

// P2.1: a part of many is told by the first one that is too many, and no more are gone through.
func TestMayOfVeryMany(t *testing.T) {
	e := of(api.All, make([]api.Expr, 1<<20)...)
	if expr.May(e) || len(expr.Cols(e)) != 0 {
		t.Error("it may be")
	}
	for range 200 { // twice as many parts with each
		e = of(api.All, e, e)
	}
	if expr.May(e) {
		t.Error("it may be")
	}
}

// P2.1
func TestSame(t *testing.T) {
	for i, a := range right() {
		if !expr.Same(a, copied(a)) {
			t.Errorf("%d is not the same as itself", i)
		}
		for j, b := range wrong() {
			if expr.Same(a, b) || expr.Same(b, a) {
				t.Errorf("%d is the same as %d, which may not be", i, j)
			}
		}
	}
	base := of(api.All, of(api.Plus, col(3), num(5)), of(api.None, col(2)), of(api.Any))
	for i, change := range []func(e *api.Expr){
		func(e *api.Expr) { e.Op = api.Any },
		func(e *api.Expr) { e.Col = 1 },
		func(e *api.Expr) { e.V = null },
		func(e *api.Expr) { e.V = n(1) },
		func(e *api.Expr) { e.L = e.L[:2] },
		func(e *api.Expr) { e.L = append(e.L, num(0)) },
		func(e *api.Expr) { e.L[0], e.L[1] = e.L[1], e.L[0] },
		func(e *api.Expr) { e.L[0].Op = api.Minus },
		func(e *api.Expr) { e.L[0].L[0], e.L[0].L[1] = e.L[0].L[1], e.L[0].L[0] },
		func(e *api.Expr) { e.L[0].L[0].Col = 4 },
		func(e *api.Expr) { e.L[0].L[1].V.N = 6 },
		func(e *api.Expr) { e.L[0].L[1].V.K = api.Bad },
		func(e *api.Expr) { e.L[1].L[0].L = []api.Expr{num(0)} },
		func(e *api.Expr) { e.L[2].L = []api.Expr{{}} },
	} {
		other := copied(base)
		if !expr.Same(base, other) || !expr.Same(other, base) {
			t.Errorf("%d: they are not the same", i)
		}
		change(&other)
		if expr.Same(base, other) || expr.Same(other, base) {
			t.Errorf("%d: they are the same", i)
		}
	}
	if !expr.Same(api.Expr{Op: api.All}, api.Expr{Op: api.All, L: []api.Expr{}}) {
		t.Error("R6: a nil list and an empty one are not the same")
	}
}

// P2.1: whether they may be is not asked.
func TestSameOfWhatMayNotBe(t *testing.T) {
	for i, e := range []api.Expr{{Op: -1}, {Op: 11}, con(api.Val{K: 3}), col(-1), of(api.Plus), chain(7), chain(1000), chain(1 << 16), of(api.Any, make([]api.Expr, 1000)...)} {
		other := copied(e)
		if !expr.Same(e, other) {
			t.Errorf("%d is not the same as itself", i)
		}
		last := &other
		for len(last.L) > 0 {
			last = &last.L[len(last.L)-1]
		}
		last.V.N++
		if expr.Same(e, other) || expr.Same(other, e) {
			t.Errorf("%d is the same as another one", i)
		}
	}
	if expr.Same(col(16), col(17)) || expr.Same(api.Expr{Op: -1}, api.Expr{Op: -2}) || expr.Same(chain(7), chain(8)) {
		t.Error("two that may not be are the same")
	}
}

// R1: Same of what has itself for a part ends.
func TestSameEnds(t *testing.T) {
	fork := of(api.Plus, num(0), num(0))
	fork.L[0], fork.L[1] = fork, fork
	expr.Same(loop(), loop())
	expr.Same(fork, fork)
	if expr.Same(chain(7), loop()) {
		t.Error("they are the same")
	}
}

// P2.1
func TestCols(t *testing.T) {
	for i, c := range []struct {
		e    api.Expr
		want []int
	}{
		{num(3), nil}, {of(api.All), nil}, {of(api.Plus, num(1), con(bad)), nil},
		{col(0), []int{0}}, {col(15), []int{15}},
		{of(api.Same, col(9), col(1)), []int{1, 9}}, {of(api.Same, col(9), col(9)), []int{9}},
		{of(api.Any, col(12), of(api.None, of(api.Plus, col(0), col(12))), num(5), of(api.All, col(15), col(3))), []int{0, 3, 12, 15}},
		{of(api.All, of(api.Any, col(15), col(14), col(13), col(12)), of(api.Any, col(11), col(10), col(9), col(8)), of(api.Any, col(7), col(6), col(5), col(4)), of(api.Any, col(3), col(2), col(1), col(0))), []int{0, 1, 2, 3, 4, 5, 6, 7, 8, 9, 10, 11, 12, 13, 14, 15}},
	} {
		if got := expr.Cols(c.e); !slices.Equal(got, c.want) {
			t.Errorf("%d: %v, not %v", i, got, c.want)
		}
	}
	for i, e := range wrong() {
		if got := expr.Cols(e); len(got) != 0 {
			t.Errorf("%d may not be, but has %v", i, got)
		}
	}
}

// P2.2
func TestEval(t *testing.T) {
	cols, row := []int{1, 3, 9, 0, 4, 3}, []api.Val{n(7), n(4), null, n(-2), bad, n(100)}
	for i, c := range []struct {
		e    api.Expr
		want api.Val
	}{
		{of(api.Below, col(3), num(5)), n(1)}, {of(api.Below, num(5), col(3)), n(0)}, {of(api.Below, num(4), col(3)), n(0)},
		{num(3), n(3)}, {num(math.MinInt), n(math.MinInt)}, {con(null), null}, {con(bad), bad},
		{col(1), n(7)}, {col(3), n(4)}, {col(9), null}, {col(0), n(-2)}, {col(4), bad}, {col(2), bad}, {col(15), bad},
		{of(api.Plus, col(1), col(3)), n(11)}, {of(api.Plus, num(math.MaxInt), num(1)), bad},
		{of(api.Minus, col(3), col(1)), n(-3)}, {of(api.Times, col(3), col(0)), n(-8)},
		{of(api.Over, col(1), num(2)), n(3)}, {of(api.Over, num(2), col(1)), n(0)}, {of(api.Over, col(1), num(0)), bad},
		{of(api.Same, col(1), num(7)), n(1)}, {of(api.Same, col(1), col(3)), n(0)}, {of(api.Same, col(9), con(null)), null},
		{of(api.Same, col(2), col(9)), bad},
		{of(api.All), n(1)}, {of(api.Any), n(0)},
		{of(api.All, num(7)), n(1)}, {of(api.Any, num(7)), n(1)}, {of(api.All, num(0)), n(0)}, {of(api.Any, num(0)), n(0)},
		{of(api.All, col(9), col(2), num(0), num(1)), n(0)}, {of(api.All, col(9), col(2), num(1)), bad}, {of(api.All, col(9), num(1)), null},
		{of(api.Any, col(9), col(2), num(0), num(1)), n(1)}, {of(api.Any, col(9), col(2), num(0)), bad}, {of(api.Any, col(9), num(0)), null},
		{of(api.None, num(0)), n(1)}, {of(api.None, num(5)), n(0)}, {of(api.None, col(9)), null}, {of(api.None, col(2)), bad},
		{of(api.None, of(api.All, of(api.Below, col(0), num(0)), of(api.Same, of(api.Minus, col(1), col(3)), num(3)))), n(0)},
	} {
		if got := expr.Eval(c.e, cols, row); got != c.want {
			t.Errorf("%d: %v, not %v", i, got, c.want)
		}
	}
	for i, e := range wrong() {
		if got := expr.Eval(e, cols, row); got != bad {
			t.Errorf("%d may not be, but comes to %v", i, got)
		}
	}
}

// P2.2: places without a value, columns that are there twice, and values that may not be.
func TestEvalOfRows(t *testing.T) {
	for i, c := range []struct {
		cols []int
		row  []api.Val
		want api.Val
	}{
		{nil, nil, bad}, {nil, []api.Val{n(1)}, bad}, {[]int{5}, nil, bad}, {[]int{5}, []api.Val{}, bad},
		{[]int{5}, []api.Val{n(1)}, n(1)}, {[]int{5}, []api.Val{n(1), n(2)}, n(1)},
		{[]int{4, 5}, []api.Val{n(1)}, bad}, {[]int{4, 5}, []api.Val{n(1), n(2)}, n(2)},
		{[]int{5, 5}, []api.Val{n(1), n(2)}, n(1)}, {[]int{5, 5}, []api.Val{n(1)}, n(1)}, {[]int{4, 5, 5}, []api.Val{n(1)}, bad},
		{[]int{-1, 16, math.MaxInt, 5}, []api.Val{n(1), n(2), n(3), n(4)}, n(4)},
		{[]int{5}, []api.Val{null}, null}, {[]int{5}, []api.Val{bad}, bad},
		{[]int{5}, []api.Val{{K: 3}}, bad}, {[]int{5}, []api.Val{{K: -1, N: 7}}, bad}, {[]int{5}, []api.Val{{K: api.Null, N: 7}}, bad}, {[]int{5}, []api.Val{{K: api.Bad, N: 7}}, bad},
	} {
		if got := expr.Eval(col(5), c.cols, c.row); got != c.want {
			t.Errorf("%d: %v, not %v", i, got, c.want)
		}
		if got := expr.Eval(of(api.Plus, col(5), num(0)), c.cols, c.row); got != c.want {
			t.Errorf("%d: %v and 0, not %v", i, got, c.want)
		}
		if got := expr.Keeps(col(5), c.cols, c.row); got != (c.want.K == api.Num) {
			t.Errorf("%d: keeps %v", i, got)
		}
	}
}

// P2.3
func TestKeeps(t *testing.T) {
	cols, row := []int{0, 1, 2}, []api.Val{n(0), n(-3), null}
	for i, c := range []struct {
		e    api.Expr
		want bool
	}{
		{num(1), true}, {num(-1), true}, {num(math.MinInt), true}, {num(0), false}, {con(null), false}, {con(bad), false},
		{col(0), false}, {col(1), true}, {col(2), false}, {col(3), false},
		{of(api.All), true}, {of(api.Any), false}, {of(api.None, col(0)), true}, {of(api.None, col(2)), false},
		{of(api.Below, col(1), col(0)), true}, {of(api.Same, col(2), col(2)), false},
	} {
		if got := expr.Keeps(c.e, cols, row); got != c.want {
			t.Errorf("%d: %v", i, got)
		}
	}
	for i, e := range wrong() {
		if expr.Keeps(e, cols, row) {
			t.Errorf("%d may not be, but keeps", i)
		}
	}
}

// P2.3
func TestPair(t *testing.T) {
	for a := range 16 {
		for b := range 16 {
			x, y, ok := expr.Pair(of(api.Same, col(a), col(b)))
			if a != b && (x != a || y != b || !ok) || a == b && (x != 0 || y != 0 || ok) {
				t.Errorf("of %d and %d: %d, %d, %v", a, b, x, y, ok)
			}
		}
	}
	l := []api.Expr{
		{}, col(1), of(api.Same, col(1), num(2)), of(api.Same, num(2), col(1)), of(api.Same, num(1), num(2)),
		of(api.Same, col(1), of(api.Plus, col(2), num(0))), of(api.Same, of(api.All, col(1)), col(2)),
		of(api.None, of(api.Same, col(1), col(2))), of(api.All, of(api.Same, col(1), col(2))),
		of(api.Same, col(1), col(16)), of(api.Same, col(-1), col(2)), of(api.Same, col(1)), of(api.Same, col(1), col(2), col(3)),
		{Op: api.Same, Col: 1, L: []api.Expr{col(1), col(2)}}, {Op: api.Same, V: n(1), L: []api.Expr{col(1), col(2)}},
		of(api.Same, col(1), api.Expr{Op: api.Col, Col: 2, V: null}), of(api.Same, api.Expr{Op: api.Col, Col: 2, L: []api.Expr{num(1)}}, col(1)),
	}
	for op := range api.Ops {
		if op != api.Same {
			l = append(l, of(op, col(1), col(2)))
		}
	}
	for i, e := range append(l, wrong()...) {
		if a, b, ok := expr.Pair(e); a != 0 || b != 0 || ok {
			t.Errorf("%d: %d, %d, %v", i, a, b, ok)
		}
	}
}
