package val_test

import (
	"math"
	"slices"
	"testing"

	"roadbook/api"
	"roadbook/val"
)

const (
	least = math.MinInt64
	most  = math.MaxInt64
)

var (
	null = api.Val{K: api.Null}
	bad  = api.Val{K: api.Bad}
	n    = val.Of
)

// wrong are values that may not be: of no kind, or with a number though they are none.
var wrong = []api.Val{
	{K: api.Kinds}, {K: api.Kinds, N: 7}, {K: -1}, {K: -1, N: 1}, {K: most}, {K: least, N: least},
	{K: api.Null, N: 1}, {K: api.Null, N: -1}, {K: api.Null, N: least}, {K: api.Bad, N: 1}, {K: api.Bad, N: most},
}

type binary struct {
	name string
	do   func(a, b api.Val) api.Val
}

type many struct {
	name string
	do   func(l ...api.Val) api.Val
}

func allBinary() []binary {
	return []binary{{"Add", val.Add}, {"Sub", val.Sub}, {"Mul", val.Mul}, {"Div", val.Div}, {"Eq", val.Eq}, {"Lt", val.Lt}}
}

func allMany() []many {
	return []many{{"And", val.And}, {"Or", val.Or}, {"Sum", val.Sum}}
}

// P1.1
func TestMay(t *testing.T) {
	for _, v := range []api.Val{{}, n(1), n(-1), n(most), n(least), null, bad} {
		if !val.May(v) {
			t.Errorf("May(%v) is false", v)
		}
	}
	for _, v := range wrong {
		if val.May(v) {
			t.Errorf("May(%v) is true", v)
		}
	}
}

// P1.1
func TestOf(t *testing.T) {
	for _, i := range []int{0, 1, -1, most, least} {
		if got := val.Of(i); got != (api.Val{K: api.Num, N: i}) {
			t.Errorf("Of(%d) = %v", i, got)
		}
	}
}

// P1.1
func TestLess(t *testing.T) {
	rising := []api.Val{n(least), n(-1), n(0), n(1), n(most), null, bad}
	for i, a := range rising {
		for j, b := range rising {
			if got := val.Less(a, b); got != (i < j) {
				t.Errorf("Less(%v, %v) = %v", a, b, got)
			}
		}
	}
	for _, w := range wrong {
		for _, v := range rising {
			if val.Less(w, v) {
				t.Errorf("Less(%v, %v) is true", w, v)
			}
			if got := val.Less(v, w); got != (v != bad) {
				t.Errorf("Less(%v, %v) = %v", v, w, got)
			}
		}
		for _, v := range wrong {
			if val.Less(w, v) {
				t.Errorf("Less(%v, %v) is true", w, v)
			}
		}
	}
}

// P1.2
func TestReckon(t *testing.T) {
	for _, c := range []struct {
		name      string
		got, want api.Val
	}{
		{"2 + 3", val.Add(n(2), n(3)), n(5)},
		{"most + 0", val.Add(n(most), n(0)), n(most)},
		{"most + 1", val.Add(n(most), n(1)), bad},
		{"most + least", val.Add(n(most), n(least)), n(-1)},
		{"least + 0", val.Add(n(least), n(0)), n(least)},
		{"least - 1 by Add", val.Add(n(least), n(-1)), bad},
		{"least + least", val.Add(n(least), n(least)), bad},
		{"2 - 3", val.Sub(n(2), n(3)), n(-1)},
		{"most - -1", val.Sub(n(most), n(-1)), bad},
		{"least - 1", val.Sub(n(least), n(1)), bad},
		{"0 - least", val.Sub(n(0), n(least)), bad},
		{"-1 - least", val.Sub(n(-1), n(least)), n(most)},
		{"least - least", val.Sub(n(least), n(least)), n(0)},
		{"-4 * 5", val.Mul(n(-4), n(5)), n(-20)},
		{"2^31 * 2^32", val.Mul(n(1<<31), n(1<<32)), bad},
		{"-2^31 * 2^32", val.Mul(n(-1<<31), n(1<<32)), n(least)},
		{"2^32 * 2^32", val.Mul(n(1<<32), n(1<<32)), bad},
		{"least * -1", val.Mul(n(least), n(-1)), bad},
		{"-1 * least", val.Mul(n(-1), n(least)), bad},
		{"-1 * most", val.Mul(n(-1), n(most)), n(-most)},
		{"0 * least", val.Mul(n(0), n(least)), n(0)},
		{"least * 0", val.Mul(n(least), n(0)), n(0)},
		{"7 / 2", val.Div(n(7), n(2)), n(3)},
		{"-7 / 2", val.Div(n(-7), n(2)), n(-3)},
		{"7 / -2", val.Div(n(7), n(-2)), n(-3)},
		{"-7 / -2", val.Div(n(-7), n(-2)), n(3)},
		{"3 / 0", val.Div(n(3), n(0)), bad},
		{"0 / 0", val.Div(n(0), n(0)), bad},
		{"null / 0", val.Div(null, n(0)), null},
		{"0 / least", val.Div(n(0), n(least)), n(0)},
		{"least / 1", val.Div(n(least), n(1)), n(least)},
		{"least / -1", val.Div(n(least), n(-1)), bad},
		{"most / -1", val.Div(n(most), n(-1)), n(-most)},
	} {
		if c.got != c.want {
			t.Errorf("%s = %v, not %v", c.name, c.got, c.want)
		}
	}
}

// P1.3
func TestEqAndLt(t *testing.T) {
	numbers := []int{least, -1, 0, 1, 2, most}
	for _, a := range numbers {
		for _, b := range numbers {
			same, less := n(0), n(0)
			if a == b {
				same = n(1)
			}
			if a < b {
				less = n(1)
			}
			if got := val.Eq(n(a), n(b)); got != same {
				t.Errorf("Eq(%d, %d) = %v", a, b, got)
			}
			if got := val.Lt(n(a), n(b)); got != less {
				t.Errorf("Lt(%d, %d) = %v", a, b, got)
			}
		}
	}
}

// P1.2, P1.3: an error goes ahead of nothing, and both ahead of what the numbers come to.
func TestBinaryWithoutNumbers(t *testing.T) {
	for _, f := range allBinary() {
		for _, v := range []api.Val{n(0), n(1), n(-1), n(least), n(most), null} {
			if got := f.do(v, null); got != null {
				t.Errorf("%s(%v, nothing) = %v", f.name, v, got)
			}
			if got := f.do(null, v); got != null {
				t.Errorf("%s(nothing, %v) = %v", f.name, v, got)
			}
			for _, w := range append([]api.Val{bad}, wrong...) {
				if got := f.do(v, w); got != bad {
					t.Errorf("%s(%v, %v) = %v", f.name, v, w, got)
				}
				if got := f.do(w, v); got != bad {
					t.Errorf("%s(%v, %v) = %v", f.name, w, v, got)
				}
			}
		}
		for _, w := range wrong {
			if got := f.do(w, w); got != bad {
				t.Errorf("%s(%v, %v) = %v", f.name, w, w, got)
			}
		}
	}
}

// P1.4
func TestAndOrNotTrue(t *testing.T) {
	for _, c := range []struct {
		name      string
		got, want api.Val
	}{
		{"And of none", val.And(), n(1)},
		{"And of a nil list", val.And([]api.Val(nil)...), n(1)},
		{"And of numbers", val.And(n(7), n(-1), n(least)), n(1)},
		{"And with a 0 last", val.And(n(7), null, bad, n(0)), n(0)},
		{"And with a 0 first", val.And(n(0), bad), n(0)},
		{"And of nothing and 0", val.And(null, n(0)), n(0)},
		{"And of an error and nothing", val.And(n(1), null, bad), bad},
		{"And of nothing", val.And(n(1), null), null},
		{"And of what may not be", val.And(null, api.Val{K: 3}), bad},
		{"And of 0 and what may not be", val.And(api.Val{K: 3}, n(0)), n(0)},
		{"Or of none", val.Or(), n(0)},
		{"Or of a nil list", val.Or([]api.Val(nil)...), n(0)},
		{"Or of noughts", val.Or(n(0), n(0)), n(0)},
		{"Or with a number last", val.Or(bad, null, n(0), n(-2)), n(1)},
		{"Or with a number first", val.Or(n(most), bad), n(1)},
		{"Or of an error and nothing", val.Or(n(0), null, bad), bad},
		{"Or of nothing", val.Or(n(0), null), null},
		{"Or of what may not be", val.Or(null, api.Val{K: 1, N: 1}), bad},
		{"Not of 0", val.Not(n(0)), n(1)},
		{"Not of 1", val.Not(n(1)), n(0)},
		{"Not of least", val.Not(n(least)), n(0)},
		{"Not of nothing", val.Not(null), null},
		{"Not of an error", val.Not(bad), bad},
	} {
		if c.got != c.want {
			t.Errorf("%s = %v, not %v", c.name, c.got, c.want)
		}
	}
	for _, v := range []api.Val{n(1), n(-1), n(most), n(least)} {
		if !val.True(v) {
			t.Errorf("True(%v) is false", v)
		}
	}
	for _, v := range append([]api.Val{n(0), null, bad}, wrong...) {
		if val.True(v) {
			t.Errorf("True(%v) is true", v)
		}
	}
	for _, w := range wrong {
		if got := val.Not(w); got != bad {
			t.Errorf("Not(%v) = %v", w, got)
		}
	}
}

// P1.5
func TestSum(t *testing.T) {
	for _, c := range []struct {
		name string
		l    []api.Val
		want api.Val
	}{
		{"none", nil, null},
		{"nothing alone", []api.Val{null, null}, null},
		{"0 alone", []api.Val{n(0)}, n(0)},
		{"nothing among numbers", []api.Val{n(1), null, n(2)}, n(3)},
		{"an error", []api.Val{n(1), bad, null}, bad},
		{"what may not be", []api.Val{null, {K: 1, N: 1}}, bad},
		{"most", []api.Val{n(most - 1), n(1)}, n(most)},
		{"just above most", []api.Val{n(most), n(1)}, bad},
		{"least", []api.Val{n(-most), n(-1)}, n(least)},
		{"just below least", []api.Val{n(least), n(-1)}, bad},
		{"too great meanwhile", []api.Val{n(most), n(1), n(-5)}, n(most - 4)},
		{"too small meanwhile", []api.Val{n(least), n(-1), n(5)}, n(least + 4)},
		{"far too great meanwhile", []api.Val{n(most), n(most), n(most), n(-most), n(-most)}, n(most)},
		{"far too small meanwhile", []api.Val{n(least), n(least), n(least), n(most), n(most), n(2)}, n(least)},
		{"far too small, and just so at last", []api.Val{n(least), n(least), n(least), n(most), n(most), n(1)}, bad},
		{"too great, then too small", []api.Val{n(most), n(most), n(least), n(least), n(least)}, bad},
		{"once round", []api.Val{n(most), n(most), n(2)}, bad},
		{"once round below", []api.Val{n(least), n(least)}, bad},
		{"to just most by way of more", []api.Val{n(most), n(most), n(-most)}, n(most)},
		{"too great, and an error", []api.Val{n(most), n(most), bad, n(-most)}, bad},
	} {
		if got := val.Sum(c.l...); got != c.want {
			t.Errorf("Sum of %s = %v, not %v", c.name, got, c.want)
		}
	}
}

// R3: what is handed in stays as it was.
func TestListsStay(t *testing.T) {
	l := []api.Val{n(3), null, n(0), bad, {K: 9, N: 9}, n(most)}
	was := slices.Clone(l)
	for _, f := range allMany() {
		f.do(l...)
		if !slices.Equal(l, was) {
			t.Errorf("%s changed its list: %v", f.name, l)
		}
	}
}
