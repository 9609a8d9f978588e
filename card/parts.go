package card

import (
	"roadbook/api"
	"roadbook/expr"
	"roadbook/query"
)

// What an expression is, by how many times fewer rows it leaves.
const (
	pair  = iota // two columns are the same
	rest         // any other one
	kinds        // one more than the last
)

// divisors are how many times fewer rows each kind of expression leaves.
var divisors = [kinds]int{pair: api.PairDiv, rest: api.RestDiv}

// everyOccurrence is the set of all that a query may have.
const everyOccurrence = 1<<api.MaxOcc - 1

// times is n, which is from 0 to 2^40, multiplied by a number.
func times(n, by int) int {
	if by <= 0 {
		return 0
	}
	// Asked by a quotient, as the product may be more than an int holds.
	if n > api.MaxCard/by {
		return api.MaxCard
	}
	return n * by
}

// rowsOf is how many rows the table of an occurrence is thought to have, of a q that may be and has it.
func rowsOf(c api.Cat, q api.Query, occ int) int { return c.T[q.Occ[occ]].Rows }

// bases are the rows of those occurrences of q, which may be, that are of the set.
func bases(c api.Cat, q api.Query, set int) []int {
	var l []int
	for occ := range len(q.Occ) {
		if set>>occ&1 == 1 {
			l = append(l, rowsOf(c, q, occ))
		}
	}
	return l
}

// kindOf is what an expression is.
func kindOf(e api.Expr) int {
	if _, _, ok := expr.Pair(e); ok {
		return pair
	}
	return rest
}

// divisor is how many times fewer rows all expressions leave that are own of the set.
func divisor(q api.Query, set int) int {
	n := 1
	for _, place := range query.Own(q, set) {
		n *= divisors[kindOf(q.P[place])]
	}
	return n
}
