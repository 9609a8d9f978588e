package card_test

import (
	"math/big"
	"reflect"
	"slices"
	"testing"

	"roadbook/api"
	"roadbook/card"
	"roadbook/query"
	"roadbook/tree"
)

// eachList hands on all lists of at most long of some.
func eachList[T any](some []T, long int, do func(l []T)) {
	var more func(l []T)
	more = func(l []T) {
		do(l)
		if len(l) == long {
			return
		}
		for _, x := range some {
			more(append(slices.Clip(l), x))
		}
	}
	more(nil)
}

// product is what the words say of numbers, in numbers of any length.
func product(l []int) int {
	p := big.NewInt(1)
	for _, n := range l {
		p.Mul(p, big.NewInt(int64(max(n, 0))))
	}
	if p.Cmp(big.NewInt(top)) > 0 {
		return top
	}
	return int(p.Int64())
}

// P9.1: all lists of up to four of numbers at the edges.
func TestTimesByModel(t *testing.T) {
	some := []int{0, 1, 2, 3, 10, 1 << 10, 1<<20 - 1, 1 << 20, 1<<20 + 1, 1<<32 - 1, 1 << 32, 1 << 39, top - 1, top, top + 1, 1 << 62, most - 1, most, -1, -2, -top, least + 1, least}
	eachList(some, 4, func(l []int) {
		if got, want := card.Times(l), product(l); got != want {
			t.Fatalf("%v: %d, not %d", l, got, want)
		}
	})
}

// P9.1: of each number, and of those that come to about 2^40 with it.
func TestTimesAboutTheTop(t *testing.T) {
	for n := 1; n < 1<<41; n += n/7 + 1 {
		for by := top/n - 2; by <= top/n+2; by++ {
			if got, want := card.Times([]int{n, by}), product([]int{n, by}); got != want {
				t.Fatalf("%d and %d: %d, not %d", n, by, got, want)
			}
		}
	}
}

// asked is an expression, with the occurrences of which it has columns, and what it divides by.
type asked struct {
	e    api.Expr
	occs []int
	by   int
}

// someAsked are expressions of one to four occurrences, pairs and others.
func someAsked() []asked {
	return []asked{
		{same(0, 4), []int{0, 1}, 10}, {same(0, 1), []int{0}, 10}, {same(12, 5), []int{1, 3}, 10}, {same(8, 8), []int{2}, 3}, {below(4, 0), []int{0, 1}, 3}, {all(4, 8, 12), []int{1, 2, 3}, 3},
		{of(api.Any, same(0, 4), same(8, 12)), []int{0, 1, 2, 3}, 3}, {of(api.Same, num(1), col(5)), []int{1}, 3},
	}
}

// holds tells whether set has all of these occurrences.
func holds(set int, occs []int) bool {
	for _, occ := range occs {
		if uint(set)/[]uint{1, 2, 4, 8}[occ]%2 == 0 {
			return false
		}
	}
	return true
}

// thought is what the words say of Rows, and how often it comes to less than 1.
func thought(guess, occ []int, set int, l []asked) int {
	var there []int
	for i, table := range occ {
		if holds(set, []int{i}) {
			there = append(there, guess[table])
		}
	}
	by := 1
	for _, x := range l {
		if holds(set, x.occs) {
			by *= x.by
		}
	}
	return max(product(there)/by, 1)
}

// P9.2, P9.3: all lists of up to three of some expressions, of queries of one to four occurrences, by each set.
func TestRowsByModel(t *testing.T) {
	guess := []int{100, 7, 1000000, 1}
	c := api.Cat{T: []api.Def{{Cols: 4, Rows: 100}, {Cols: 2, Rows: 7}, {Cols: 2, Rows: 1000000}, {Cols: 3, Rows: 1}}}
	may := 0
	for _, occ := range [][]int{{0}, {2}, {0, 1}, {3, 2}, {1, 0, 2}, {2, 2, 2}, {0, 1, 2, 3}, {2, 2, 2, 2}, {1, 1, 1, 1}, {3, 3, 3, 3}} {
		eachList(someAsked(), 3, func(l []asked) {
			q := told(occ)
			for _, x := range l {
				q.P = append(q.P, x.e)
				if slices.Max(x.occs) >= len(occ) {
					return
				}
			}
			may++
			for i := range 6 {
				want := 0
				if i < len(occ) {
					want = guess[occ[i]]
				}
				if got := card.Base(c, q, i); got != want {
					t.Fatalf("%v: base %d: %d, not %d", q, i, got, want)
				}
			}
			for _, set := range []int{0, 1, 2, 3, 4, 5, 6, 7, 8, 9, 10, 11, 12, 13, 14, 15, 16, 21, 31, -1, -2, -6, -16, most, least} {
				if got, want := card.Rows(c, q, set), thought(guess, occ, set, l); got != want {
					t.Fatalf("%v: set %d: %d, not %d", q, set, got, want)
				}
			}
			if got, want := card.Groups(c, q), max(thought(guess, occ, 15, l)/5, 1); got != want {
				t.Fatalf("%v: %d groups, not %d", q, got, want)
			}
		})
	}
	if may < 1000 {
		t.Errorf("of %d queries alone", may)
	}
}

// wide are queries of four occurrences, of tables that leave room for each division.
func wide() (api.Cat, []api.Query) {
	var l []api.Query
	some := someAsked()
	for i := range some {
		q := told([]int{0, 1, 0, 1})
		for j := range 6 {
			q.P = append(q.P, some[(i+j*j)%len(some)].e)
		}
		l = append(l, q, groups(q))
	}
	return api.Cat{T: []api.Def{{Cols: 2, Rows: 999}, {Cols: 2, Rows: 801}}}, append(l, told([]int{1, 0, 0, 1}))
}

// dividesBy is what a tree divides by, where each expression divides as soon as all its occurrences are there.
func dividesBy(q api.Query, t api.Tree) int {
	places, by := query.Own(q, tree.Set(t)), 1
	if len(t.L) == 2 {
		places, by = query.New(q, tree.Set(t.L[0]), tree.Set(t.L[1])), dividesBy(q, t.L[0])*dividesBy(q, t.L[1])
	}
	for _, place := range places {
		e := q.P[place]
		if e.Op == api.Same && e.L[0].Op == api.Col && e.L[1].Op == api.Col && e.L[0].Col != e.L[1].Col {
			by *= 10
		} else {
			by *= 3
		}
	}
	return by
}

// P9.4: by whatever tree the occurrences of a set are put together, it comes to the rows of the set.
func TestRowsHangOnTheSetAlone(t *testing.T) {
	c, l := wide()
	trees := 0
	for i, q := range l {
		for set := 1; set < 16; set++ {
			var there []int
			for occ := range 4 {
				if set>>occ&1 == 1 {
					there = append(there, card.Base(c, q, occ))
				}
			}
			for _, x := range tree.All(set) {
				trees++
				if got, want := card.Rows(c, q, tree.Set(x)), max(card.Times(there)/dividesBy(q, x), 1); got != want {
					t.Errorf("%d: %s: %d, not %d", i, tree.Text(x), got, want)
				}
			}
		}
	}
	if trees != 184*len(l) {
		t.Errorf("of %d trees alone", trees)
	}
}

// P9.4: in another order expressions leave as many rows, and what is told at last changes none.
func TestRowsHangOnNoOrder(t *testing.T) {
	c, l := wide()
	for i, q := range l {
		other := q
		other.P = slices.Clone(q.P)
		for turn := range 6 {
			slices.Reverse(other.P)
			if turn%2 == 1 && len(other.P) > 0 {
				other.P = append(other.P[1:], other.P[0])
			}
			for set := range 16 {
				if a, b := card.Rows(c, q, set), card.Rows(c, other, set); a != b || a < 1 {
					t.Errorf("%d: set %d: %d, and then %d", i, set, a, b)
				}
				if a, b := card.Rows(c, told(q.Occ, q.P...), set), card.Rows(c, groups(told(q.Occ, q.P...)), set); a != b {
					t.Errorf("%d: set %d: told %d, in groups %d", i, set, a, b)
				}
			}
			if a, b := card.Groups(c, q), card.Groups(c, other); a != b {
				t.Errorf("%d: %d groups, and then %d", i, a, b)
			}
		}
	}
}

// P9.4: with one more expression, wherever it stands, no set has more rows, and there are no more groups.
func TestMoreExpressionsLeaveNoMore(t *testing.T) {
	c, l := wide()
	less := 0
	for i, q := range l {
		for n := range min(len(q.P)+1, 6) {
			few := q
			few.P = q.P[:n]
			for _, x := range someAsked() {
				for at := range n + 1 {
					more := few
					more.P = slices.Insert(slices.Clone(few.P), at, x.e)
					for set := range 16 {
						a, b := card.Rows(c, few, set), card.Rows(c, more, set)
						if b > a || b < 1 || !holds(set, x.occs) && a != b {
							t.Fatalf("%d: set %d: %d, and %d with %v", i, set, a, b, x.e)
						}
						if b < a {
							less++
						}
					}
					if a, b := card.Groups(c, few), card.Groups(c, more); b > a || b < 1 {
						t.Fatalf("%d: %d groups, and %d with %v", i, a, b, x.e)
					}
				}
			}
		}
	}
	if less == 0 {
		t.Error("no expression leaves less")
	}
}

// copied is e in memory of its own.
func copied(e api.Expr) api.Expr {
	var l []api.Expr
	for _, p := range e.L {
		l = append(l, copied(p))
	}
	e.L = l
	return e
}

// copiedQuery is q in memory of its own.
func copiedQuery(q api.Query) api.Query {
	var l []api.Expr
	for _, e := range q.P {
		l = append(l, copied(e))
	}
	q.Occ, q.P, q.Sums, q.Out = slices.Clone(q.Occ), l, slices.Clone(q.Sums), slices.Clone(q.Out)
	return q
}

// answers are all that may be asked of a query, of these numbers.
func answers(c api.Cat, q api.Query, numbers []int) []int {
	l := []int{card.Groups(c, q)}
	for _, n := range numbers {
		l = append(l, card.Rows(c, q, n), card.Base(c, q, n))
	}
	return l
}

// R3, R5: what is handed in stays as it was, and what is told is the same the next time.
func TestStays(t *testing.T) {
	c, l := wide()
	numbers := []int{0, 1, 2, 3, 7, 12, 15, 16, -1}
	for i, q := range l {
		was, tables := copiedQuery(q), slices.Clone(c.T)
		first := answers(c, q, numbers)
		slices.Reverse(numbers)
		answers(c, q, numbers)
		slices.Reverse(numbers)
		if again := answers(c, q, numbers); !slices.Equal(first, again) {
			t.Errorf("%d: %v, and then %v", i, first, again)
		}
		if !reflect.DeepEqual(copiedQuery(q), was) || !slices.Equal(c.T, tables) {
			t.Errorf("%d is changed: %v, was %v", i, q, was)
		}
	}
	some := []int{1 << 62, -4, 4, 0}
	card.Times(some)
	if !slices.Equal(some, []int{1 << 62, -4, 4, 0}) {
		t.Errorf("the numbers are changed: %v", some)
	}
}

// P1, R1: every call comes back, whatever it is of, and what it tells is within bounds.
func TestAnyArguments(t *testing.T) {
	numbers := []int{least, -16, -1, 0, 1, 3, 4, 9, 15, 16, 63, 64, most}
	_, l := wide()
	for i, q := range append(l, wrongQueries()...) {
		for j, c := range append(wrongCats(), tables(), rows(1000000), rows(1)) {
			may := query.May(c, q)
			for k, n := range answers(c, q, numbers) {
				if n < 0 || n > top || !may && n != 0 {
					t.Fatalf("%d, %d: answer %d is %d", i, j, k, n)
				}
			}
		}
	}
}
