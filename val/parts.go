package val

import (
	"math"

	"roadbook/api"
)

// fault is the error.
func fault() api.Val { return api.Val{K: api.Bad} }

// read is v as it counts: what may not be counts as the error.
func read(v api.Val) api.Val {
	if May(v) {
		return v
	}
	return fault()
}

func isNumber(v api.Val) bool { return v.K == api.Num }

func isNothing(v api.Val) bool { return read(v).K == api.Null }

func isError(v api.Val) bool { return read(v).K == api.Bad }

func isFalse(v api.Val) bool { return v == Of(0) }

// truth is a yes as 1, and a no as 0.
func truth(yes bool) int {
	if yes {
		return 1
	}
	return 0
}

// some tells whether what is asked is so of one of l.
func some[T any](l []T, asked func(T) bool) bool {
	for _, x := range l {
		if asked(x) {
			return true
		}
	}
	return false
}

// ifNumbers is the number n, if all of l are numbers; else what they come to without it: an error goes ahead of nothing.
func ifNumbers(n int, l ...api.Val) api.Val {
	if some(l, isError) {
		return fault()
	}
	if some(l, isNothing) {
		return api.Val{K: api.Null}
	}
	return Of(n)
}

// reckon is what both numbers come to, which is an error, if how tells that it does not fit.
func reckon(how func(a, b int) (int, bool), a, b api.Val) api.Val {
	if v := ifNumbers(0, a, b); !isNumber(v) {
		return v
	}
	n, fits := how(a.N, b.N)
	if !fits {
		return fault()
	}
	return Of(n)
}

// plus is the sum, gone round if it does not fit, and whether it fits.
func plus(a, b int) (int, bool) {
	n := a + b
	return n, (n < a) == (b < 0)
}

// minus is a less b, gone round if it does not fit, and whether it fits.
func minus(a, b int) (int, bool) {
	n := a - b
	return n, (n > a) == (b < 0)
}

// times is the product, gone round if it does not fit, and whether it fits.
func times(a, b int) (int, bool) {
	n := a * b
	switch a {
	case 0:
		return n, true
	case -1:
		// Dividing back by -1 goes round again, and would hide the one product that does not fit.
		return n, b != math.MinInt
	}
	return n, n/a == b
}

// over is a by b, and whether there is such a number, and it fits.
func over(a, b int) (int, bool) {
	if b == 0 || a == math.MinInt && b == -1 {
		return 0, false
	}
	return a / b, true
}
