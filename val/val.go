// Package val is layer 1: values, which are numbers, nothing, or an error. See shared/doc/01-val.md.
package val

import "roadbook/api"

// May tells whether a value may be: only a number may have an N of its own.
func May(v api.Val) bool {
	return v.K == api.Num || (v.K == api.Null || v.K == api.Bad) && v.N == 0
}

// Of is the number n.
func Of(n int) api.Val { return api.Val{K: api.Num, N: n} }

// Less tells whether a is less than b: numbers are less than nothing, and that is less than an error.
func Less(a, b api.Val) bool {
	// The kinds' own numbers rise in just that order, and N is 0 of all that are no numbers.
	a, b = read(a), read(b)
	return a.K < b.K || a.K == b.K && a.N < b.N
}

// Add is the sum of two values.
func Add(a, b api.Val) api.Val { return reckon(plus, a, b) }

// Sub is a less b.
func Sub(a, b api.Val) api.Val { return reckon(minus, a, b) }

// Mul is the product of two values.
func Mul(a, b api.Val) api.Val { return reckon(times, a, b) }

// Div is a by b, without what is left, towards 0.
func Div(a, b api.Val) api.Val { return reckon(over, a, b) }

// Eq is 1, if both are the same number.
func Eq(a, b api.Val) api.Val { return ifNumbers(truth(a.N == b.N), a, b) }

// Lt is 1, if a is the lesser number.
func Lt(a, b api.Val) api.Val { return ifNumbers(truth(a.N < b.N), a, b) }

// And is 0, if one of l is false, whatever the others are; 1, if all are true.
func And(l ...api.Val) api.Val {
	if some(l, isFalse) {
		return Of(0)
	}
	return ifNumbers(1, l...)
}

// Or is 1, if one of l is true, whatever the others are; 0, if all are false.
func Or(l ...api.Val) api.Val {
	if some(l, True) {
		return Of(1)
	}
	return ifNumbers(0, l...)
}

// Not is 1 of what is false, and 0 of what is true.
func Not(v api.Val) api.Val { return ifNumbers(truth(isFalse(v)), v) }

// True tells whether v is a number that is not 0.
func True(v api.Val) bool { return v.K == api.Num && v.N != 0 }

// Sum is all numbers of l together, with nothing left out.
func Sum(l ...api.Val) api.Val {
	if some(l, isError) {
		return fault()
	}
	if !some(l, isNumber) {
		return api.Val{K: api.Null}
	}
	// What is too great meanwhile may fit at last: so it is counted how often the total goes round beyond either end, and only what is left of that at last is an error. (No N is left out: that of nothing is 0.)
	total, rounds := 0, 0
	for _, v := range l {
		sum, fits := plus(total, v.N)
		total = sum
		if !fits && v.N > 0 {
			rounds++
		} else if !fits {
			rounds--
		}
	}
	if rounds != 0 {
		return fault()
	}
	return Of(total)
}
