package expr_test

import (
	"reflect"
	"slices"
	"testing"

	"roadbook/api"
	"roadbook/expr"
)

// The model tells what an expression of small numbers comes to from the promises' words alone.

func firstKind(l []api.Val, kinds ...int) (api.Val, bool) {
	for _, k := range kinds {
		for _, v := range l {
			if v.K == k {
				return v, true
			}
		}
	}
	return api.Val{}, false
}

func yes(is bool) api.Val {
	if is {
		return n(1)
	}
	return n(0)
}

func modelOfTwo(op, a, b int) api.Val {
	switch op {
	case api.Plus:
		return n(a + b)
	case api.Minus:
		return n(a - b)
	case api.Times:
		return n(a * b)
	case api.Over:
		if b == 0 {
			return bad
		}
		return n(a / b)
	case api.Same:
		return yes(a == b)
	}
	return yes(a < b)
}

func model(e api.Expr, row map[int]api.Val) api.Val {
	var l []api.Val
	for _, p := range e.L {
		l = append(l, model(p, row))
	}
	switch e.Op {
	case api.Const:
		return e.V
	case api.Col:
		if v, ok := row[e.Col]; ok {
			return v
		}
		return bad
	case api.All:
		if slices.Contains(l, n(0)) {
			return n(0)
		}
	case api.Any:
		if slices.ContainsFunc(l, func(v api.Val) bool { return v.K == api.Num && v.N != 0 }) {
			return n(1)
		}
	}
	if v, ok := firstKind(l, api.Bad, api.Null); ok {
		return v
	}
	switch e.Op {
	case api.All, api.Any:
		return yes(e.Op == api.All)
	case api.None:
		return yes(l[0].N == 0)
	}
	return modelOfTwo(e.Op, l[0].N, l[1].N)
}

// parts is how many parts e has, itself one of them.
func parts(e api.Expr) int {
	n := 1
	for _, p := range e.L {
		n += parts(p)
	}
	return n
}

// grown are all expressions of one or two of the parts, and some of more.
func grown(parts []api.Expr) []api.Expr {
	l := []api.Expr{of(api.All), of(api.Any)}
	for i, a := range parts {
		l = append(l, of(api.None, a), of(api.All, a), of(api.Any, a))
		for j, b := range parts {
			for op := api.Plus; op <= api.Any; op++ {
				l = append(l, of(op, a, b))
			}
			c, d := parts[(i+2*j+1)%len(parts)], parts[(3*i+j+2)%len(parts)]
			l = append(l, of(api.All, a, b, c), of(api.Any, a, b, c), of(api.All, a, c, b, d), of(api.Any, d, a, b, c))
		}
	}
	return l
}

// some are expressions of up to 4 deep, a few of them with too many parts.
func some() []api.Expr {
	leaves := []api.Expr{num(0), num(1), num(-3), con(null), con(bad), col(0), col(1), col(7), col(15)}
	two := grown(leaves)
	var few []api.Expr
	for i := 0; i < len(two); i += 17 {
		few = append(few, two[i])
	}
	three := grown(append(few, leaves...))
	var last []api.Expr
	for i := 0; i < len(three); i += 997 {
		last = append(last, three[i])
	}
	return slices.Concat(leaves, two, three, grown(last))
}

func rows() []map[int]api.Val {
	return []map[int]api.Val{
		{}, {0: n(0), 1: n(1), 7: n(2), 15: n(-3)}, {0: n(5), 1: null, 7: n(5), 15: n(1)},
		{0: null, 1: n(-1), 7: bad, 15: n(0)}, {1: n(4), 7: n(4)}, {0: bad, 1: n(2), 15: null},
	}
}

// listed are a row's columns and values, rising or falling.
func listed(row map[int]api.Val, falling bool) ([]int, []api.Val) {
	var cols []int
	for c := range 16 {
		if _, ok := row[c]; ok {
			cols = append(cols, c)
		}
	}
	if falling {
		slices.Reverse(cols)
	}
	var l []api.Val
	for _, c := range cols {
		l = append(l, row[c])
	}
	return cols, l
}

// P2.2, P2.3
func TestByModel(t *testing.T) {
	for _, e := range some() {
		for _, row := range rows() {
			want := model(e, row)
			if parts(e) > 30 {
				want = bad
			}
			for _, falling := range []bool{false, true} {
				cols, l := listed(row, falling)
				if got := expr.Eval(e, cols, l); got != want {
					t.Fatalf("%v of %v = %v, not %v", e, row, got, want)
				}
				if got := expr.Keeps(e, cols, l); got != (want.K == api.Num && want.N != 0) {
					t.Fatalf("%v of %v keeps: %v", e, row, got)
				}
			}
		}
	}
}

// P2.4: what other columns there are, with which values, and in which places, changes nothing.
func TestHangsOnOwnColumns(t *testing.T) {
	for _, e := range some() {
		own := expr.Cols(e)
		for _, row := range rows() {
			alone, more := map[int]api.Val{}, map[int]api.Val{2: n(9), 3: bad, 4: null, 14: {K: 9}}
			for c, v := range row {
				if slices.Contains(own, c) {
					alone[c], more[c] = v, v
				} else {
					more[c] = n(v.N + 11)
				}
			}
			cols, l := listed(row, false)
			want := expr.Eval(e, cols, l)
			for i, other := range []map[int]api.Val{alone, more} {
				cols, l := listed(other, i == 1)
				if got := expr.Eval(e, cols, l); got != want {
					t.Fatalf("%v of %v = %v, but of %v %v", e, row, want, other, got)
				}
			}
		}
	}
}

// R3: what is handed in stays as it was, and what is answered is the caller's own.
func TestStays(t *testing.T) {
	for _, e := range slices.Concat(right(), []api.Expr{of(api.All, col(9), of(api.Plus, col(4), col(9)), of(api.Same, col(4), col(0)))}) {
		cols, row := []int{9, 0, 4, 4}, []api.Val{n(1), null, {K: 5}, n(2)}
		was, wasCols, wasRow := copied(e), slices.Clone(cols), slices.Clone(row)
		expr.May(e)
		expr.Same(e, e)
		expr.Pair(e)
		expr.Eval(e, cols, row)
		expr.Keeps(e, cols, row)
		told := expr.Cols(e)
		want := slices.Clone(told)
		for i := range told {
			told[i] = -1
		}
		if !expr.Same(e, was) || !reflect.DeepEqual(copied(e), was) || !slices.Equal(cols, wasCols) || !slices.Equal(row, wasRow) {
			t.Errorf("%v was %v, %v %v", e, was, cols, row)
		}
		if got := expr.Cols(e); !slices.Equal(got, want) {
			t.Errorf("%v: %v, and then %v", e, want, got)
		}
	}
}

// P1, R1, R5: every call comes back, whatever it is of, and with the same the next time.
func TestAnyArguments(t *testing.T) {
	type answer struct {
		may, keeps, pair bool
		v                api.Val
		a, b             int
		cols             []int
	}
	ask := func(e api.Expr, cols []int, row []api.Val) answer {
		a, b, pair := expr.Pair(e)
		return answer{expr.May(e), expr.Keeps(e, cols, row), pair, expr.Eval(e, cols, row), a, b, expr.Cols(e)}
	}
	for i, e := range append(right(), wrong()...) {
		for _, cols := range [][]int{nil, {}, {1, 2}, {-1, 99, 2, 2}} {
			for _, row := range [][]api.Val{nil, {n(1)}, {{K: 7}, null, bad, n(3), n(4)}} {
				if one, two := ask(e, cols, row), ask(e, cols, row); !reflect.DeepEqual(one, two) {
					t.Errorf("%d: %v, and then %v", i, one, two)
				}
			}
		}
	}
}
