package query

import (
	"slices"

	"roadbook/api"
	"roadbook/data"
	"roadbook/expr"
)

// none stands where no column is meant.
const none = -1

// occs is a set of occurrences, one of each bit. Bits beyond the last occurrence's are of nothing, and stay unasked.
type occs int

// has tells whether all occurrences of part are of the set: so they are, if there are none.
func (s occs) has(part occs) bool { return part&^s == 0 }

// alone is the set of one occurrence.
func alone(occ int) occs { return 1 << occ }

// ofColumn is the set of the occurrence whose column col is, which is from 0 to 15.
func ofColumn(col int) occs {
	occ, _, _ := data.Split(col)
	return alone(occ)
}

// places are those of the expressions of q, in order, whose sets are asked for.
func places(q api.Query, asked func(s occs) bool) []int {
	var l []int
	for i, e := range q.P {
		if asked(occs(Of(e))) {
			l = append(l, i)
		}
	}
	return l
}

// below tells whether n is from 0 to one less than end.
func below(n, end int) bool { return n >= 0 && n < end }

// occurrencesMay tells whether q has occurrences, not too many, each of a table of c.
func occurrencesMay(c api.Cat, q api.Query) bool {
	if len(q.Occ) < 1 || len(q.Occ) > api.MaxOcc {
		return false
	}
	for occ := range len(q.Occ) {
		if !below(q.Occ[occ], len(c.T)) {
			return false
		}
	}
	return true
}

// isColumn tells whether col is a column of q, whose occurrences may be.
func isColumn(c api.Cat, q api.Query, col int) bool {
	occ, place, ok := data.Split(col)
	return ok && occ < len(q.Occ) && place < c.T[q.Occ[occ]].Cols
}

// areColumns tells whether all of l are columns of q, whose occurrences may be.
func areColumns(c api.Cat, q api.Query, l []int) bool {
	for _, col := range l {
		if !isColumn(c, q, col) {
			return false
		}
	}
	return true
}

// expressionsMay tells whether there are not too many expressions, and each of them may be, and has columns, of q alone.
func expressionsMay(c api.Cat, q api.Query) bool {
	if len(q.P) > api.MaxPred {
		return false
	}
	for _, e := range q.P {
		// One that may not be has no columns either.
		cols := expr.Cols(e)
		if len(cols) == 0 || !areColumns(c, q, cols) {
			return false
		}
	}
	return true
}

// endMay tells whether q may end so, in columns that are told, or in groups.
func endMay(c api.Cat, q api.Query) bool {
	if q.By == none {
		return toldMay(c, q)
	}
	return groupsMay(c, q)
}

// toldMay tells whether some columns, not too many, no two the same, are all that q ends in, in order by none or one of them.
func toldMay(c api.Cat, q api.Query) bool {
	if len(q.Sums) > 0 || len(q.Out) < 1 || len(q.Out) > api.MaxOut || !areColumns(c, q, q.Out) {
		return false
	}
	for i, col := range q.Out {
		if slices.Contains(q.Out[:i], col) {
			return false
		}
	}
	return q.Ord == none || slices.Contains(q.Out, q.Ord)
}

// groupsMay tells whether groups by a column, with not too many sums, are all that q ends in, in order by none or that column.
func groupsMay(c api.Cat, q api.Query) bool {
	if !isColumn(c, q, q.By) || len(q.Sums) > api.MaxSum || !areColumns(c, q, q.Sums) || len(q.Out) > 0 {
		return false
	}
	return q.Ord == none || q.Ord == q.By
}
