package bag

import (
	"slices"
	"strconv"

	"roadbook/api"
	"roadbook/val"
)

// rank is what a row is ordered by: its value's kind and number, as they count.
type rank [2]int

// ranked is a row, and what it is ordered by.
type ranked struct {
	by  rank
	row []api.Val
}

// rankAt is the rank of the row's value at the place: of the number 0, if there is none, and of the error, if it may not be.
func rankAt(row []api.Val, place int) rank {
	if place < 0 || place >= len(row) {
		return rank{api.Num, 0}
	}
	if v := row[place]; val.May(v) {
		return rank{v.K, v.N}
	}
	return rank{api.Bad, 0}
}

// value is the value whose rank it is.
func (r rank) value() api.Val { return api.Val{K: r[0], N: r[1]} }

// against is below 0, if a is less, 0, if both are the same, and else above.
func against(a, b rank) int {
	switch {
	case a == b:
		return 0
	case val.Less(a.value(), b.value()):
		return -1
	}
	return 1
}

// alike is how many of the rows, from the first one on, have its value at the place.
func alike(rows [][]api.Val, place int) int {
	n, first := 1, rankAt(rows[0], place)
	for n < len(rows) && rankAt(rows[n], place) == first {
		n++
	}
	return n
}

// colsMay tells whether all columns are numbers that may be, no two the same.
func colsMay(cols []int) bool {
	var seen [api.MaxCol + 1]bool
	for _, col := range cols {
		if col < 0 || col > api.MaxCol || seen[col] {
			return false
		}
		seen[col] = true
	}
	return true
}

// rowsMay tells whether each row has a value of each column, and all of them may be.
func rowsMay(b api.Bag) bool {
	for _, row := range b.Rows {
		if len(row) != len(b.Cols) {
			return false
		}
		for _, v := range row {
			if !val.May(v) {
				return false
			}
		}
	}
	return true
}

// hasAll tells whether each of some is one of all.
func hasAll(all, some []int) bool {
	for _, col := range some {
		if !slices.Contains(all, col) {
			return false
		}
	}
	return true
}

// meet tells whether both have a column in common.
func meet(a, b []int) bool {
	return slices.ContainsFunc(b, func(col int) bool { return slices.Contains(a, col) })
}

// counts is how often each of the rows is there, as it is written.
func counts(rows [][]api.Val) map[string]int {
	m := make(map[string]int, len(rows))
	for _, row := range rows {
		m[written(row)]++
	}
	return m
}

// written is the row as a text, of which no other row has the same: rows of any length are to be counted, and lists are no keys of a map.
func written(row []api.Val) string {
	var text []byte
	for _, v := range row {
		text = append(strconv.AppendInt(text, int64(v.K), 10), ' ')
		text = append(strconv.AppendInt(text, int64(v.N), 10), ',')
	}
	return string(text)
}

// picked are the row's values at the places.
func picked(row []api.Val, places []int) []api.Val {
	l := make([]api.Val, len(places))
	for i, place := range places {
		l[i] = row[place]
	}
	return l
}

// column are the values of all rows at the place.
func column(b api.Bag, place int) []api.Val {
	l := make([]api.Val, len(b.Rows))
	for i, row := range b.Rows {
		l[i] = row[place]
	}
	return l
}

// groupCols are the columns of groups: the one that they are by, and new ones of how many rows there are, and of each sum.
func groupCols(by, sums int) []int {
	cols := []int{by}
	for i := range 1 + sums {
		cols = append(cols, api.MaxCol+1+i)
	}
	return cols
}
