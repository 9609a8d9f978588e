package expr

import (
	"math"
	"slices"

	"roadbook/api"
	"roadbook/val"
)

// Nothing is promised of what has more parts, or as many that are nested in one another: so Same ends there, even with one that has itself for a part.
const (
	mostParts  = math.MaxInt32
	mostNested = 1 << 17
)

// mostOfMany is how many parts an All or an Any has at most.
const mostOfMany = 4

// form is what an expression comes to of what its parts come to: of one, of two, or of many of them. Without any of these it has no parts.
type form struct {
	one  func(v api.Val) api.Val
	two  func(a, b api.Val) api.Val
	many func(l ...api.Val) api.Val
}

// formOf is the form of what is an op, which is below Ops.
func formOf(op int) form {
	return [api.Ops]form{
		api.Plus:  {two: val.Add},
		api.Minus: {two: val.Sub},
		api.Times: {two: val.Mul},
		api.Over:  {two: val.Div},
		api.Same:  {two: val.Eq},
		api.Below: {two: val.Lt},
		api.All:   {many: val.And},
		api.Any:   {many: val.Or},
		api.None:  {one: val.Not},
	}[op]
}

// takes tells whether there may be n parts.
func (f form) takes(n int) bool {
	switch {
	case f.one != nil:
		return n == 1
	case f.two != nil:
		return n == 2
	case f.many != nil:
		return n <= mostOfMany
	}
	return n == 0
}

// come is what the parts, which are as many as it takes, come to.
func (f form) come(l []api.Val) api.Val {
	switch {
	case f.one != nil:
		return f.one(l[0])
	case f.two != nil:
		return f.two(l[0], l[1])
	}
	return f.many(l...)
}

// through shows see e and all its parts, each ahead of its own, and how deep each is, till see says no; it tells whether see never did.
func through(e api.Expr, see func(p api.Expr, deep int) bool) bool {
	var all func(e api.Expr, deep int) bool
	all = func(e api.Expr, deep int) bool {
		if !see(e, deep) {
			return false
		}
		for _, p := range e.L {
			if !all(p, deep+1) {
				return false
			}
		}
		return true
	}
	return all(e, 1)
}

// fits tells whether e has the form of what it is, whatever its parts are.
func fits(e api.Expr) bool {
	if e.Op < 0 || e.Op >= api.Ops || e.Col < 0 || e.Col > api.MaxCol || !val.May(e.V) {
		return false
	}
	if e.Col != 0 && e.Op != api.Col || e.V != val.Of(0) && e.Op != api.Const {
		return false
	}
	return formOf(e.Op).takes(len(e.L))
}

// alike tells whether both are the same but for what their parts are, of which they have as many.
func alike(a, b api.Expr) bool {
	return a.Op == b.Op && a.Col == b.Col && a.V == b.V && len(a.L) == len(b.L)
}

// at is the value of row at the first place of col in cols: an error, if there is none, or it may not be.
func at(col int, cols []int, row []api.Val) api.Val {
	i := slices.Index(cols, col)
	if i < 0 || i >= len(row) || !val.May(row[i]) {
		return api.Val{K: api.Bad}
	}
	return row[i]
}
