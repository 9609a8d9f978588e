package cost

import (
	"math/bits"

	"roadbook/api"
)

// What a cost is: what is done with each row.
const (
	passed = iota // it is gone through
	stored        // it is put by, and looked up
	sorted        // it finds its place among all
)

// bounded is a cost as it counts in a sum: from 0 to 2^50.
func bounded(n int) int { return min(max(n, 0), api.MaxCost) }

// rows is a number of rows as it counts: from 0 to 2^40.
func rows(n int) int { return min(max(n, 0), api.MaxCard) }

// rowsCost is what it costs to do so with each of n rows.
func rowsCost(what, n int) int {
	n = rows(n)
	return times(n, each(what, n))
}

// each is what one of n rows costs.
func each(what, n int) int {
	switch what {
	case stored:
		return 2
	case sorted:
		return bits.Len(uint(n))
	}
	return 1
}

// times is n multiplied by a number, neither of them below 0, but no more than 2^50.
func times(n, by int) int {
	// Asked by a quotient, as the product may be more than an int holds.
	if by > 0 && n > api.MaxCost/by {
		return api.MaxCost
	}
	return n * by
}
