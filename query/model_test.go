package query_test

import (
	"reflect"
	"slices"
	"testing"

	"roadbook/api"
	"roadbook/query"
)

// eachList hands on all lists of at most long of some.
func eachList[T any](some []T, long int, do func(l []T)) {
	var more func(l []T)
	more = func(l []T) {
		do(l)
		if len(l) == long {
			return
		}
		for _, x := range some {
			more(append(slices.Clip(l), x))
		}
	}
	more(nil)
}

// columns are all of these occurrences, by tables, from the words alone: 2 of table 0, 1 of table 1; false, if one is of no table.
func columns(occ []int) ([]int, bool) {
	var l []int
	for i, table := range occ {
		switch table {
		case 0:
			l = append(l, 4*i, 4*i+1)
		case 1:
			l = append(l, 4*i)
		default:
			return nil, false
		}
	}
	return l, true
}

// holds tells whether l has all of part.
func holds(l, part []int) bool {
	for _, x := range part {
		if !slices.Contains(l, x) {
			return false
		}
	}
	return true
}

// once tells whether no two of l are the same.
func once(l []int) bool {
	seen := map[int]int{}
	for _, x := range l {
		seen[x]++
	}
	return len(seen) == len(l)
}

// endsWell tells whether q, of these columns, ends as a query that may be does.
func endsWell(q api.Query, cols []int) bool {
	if q.By == -1 {
		return len(q.Sums) == 0 && len(q.Out) >= 1 && len(q.Out) <= 8 && holds(cols, q.Out) && once(q.Out) && slices.Contains(append([]int{-1}, q.Out...), q.Ord)
	}
	return slices.Contains(cols, q.By) && len(q.Sums) <= 4 && holds(cols, q.Sums) && len(q.Out) == 0 && (q.Ord == -1 || q.Ord == q.By)
}

// P5.1: all queries of up to five occurrences, that end in all manners of small lists.
func TestMayByModel(t *testing.T) {
	eachList([]int{0, 1, 2, -1}, 5, func(occ []int) {
		cols, ok := columns(occ)
		ok = ok && len(occ) >= 1 && len(occ) <= 4
		eachList([]int{0, 1, 4, 12}, 2, func(out []int) {
			for _, sums := range [][]int{nil, {0}, {1, 1}, {0, 0, 0, 0}, {0, 0, 0, 0, 0}} {
				for _, by := range []int{-2, -1, 0, 1, 5} {
					for _, ord := range []int{-2, -1, 0, 1, 4} {
						q := api.Query{Occ: occ, By: by, Sums: sums, Out: out, Ord: ord}
						if got, want := query.May(tables(), q), ok && endsWell(q, cols); got != want {
							t.Fatalf("%v: %v", q, got)
						}
					}
				}
			}
		})
	})
}

// P5.1: all lists of up to three of some expressions, of all queries of up to two occurrences, with what Cols tells of each set.
func TestMayOfExpressionsByModel(t *testing.T) {
	some := []struct {
		e    api.Expr
		cols []int
	}{{same(0, 4), []int{0, 4}}, {col(1), []int{1}}, {same(5, 5), []int{5}}, {all(0, 8), []int{0, 8}}, {num(1), nil}, {of(api.None, col(0), col(0)), nil}}
	places := []int{0, 1, 2, 3, 4, 5}
	eachList([]int{0, 1}, 2, func(occ []int) {
		cols, _ := columns(occ)
		eachList(places, 3, func(at []int) {
			q, want := told(occ, 0), len(occ) > 0
			for _, i := range at {
				q.P = append(q.P, some[i].e)
				want = want && len(some[i].cols) > 0 && holds(cols, some[i].cols)
			}
			if got := query.May(tables(), q); got != want {
				t.Fatalf("%v: %v", q, got)
			}
			for set := -1; set <= 16; set++ {
				var of []int
				for _, col := range cols {
					if want && set>>(col/4)&1 == 1 {
						of = append(of, col)
					}
				}
				if got := query.Cols(tables(), q, set); !slices.Equal(got, of) {
					t.Fatalf("%v, set %d: %v, not %v", q, set, got, of)
				}
			}
		})
	})
}

// byOccurrences are an expression of each set of occurrences, and a pair of each two columns of some, with the occurrences of each, as a list.
func byOccurrences() (l []api.Expr, occs [][]int) {
	for set := range 16 {
		var in, cols []int
		for occ := range 4 {
			if set>>occ&1 == 1 {
				in, cols = append(in, occ), append(cols, 4*occ+(set+occ)%4)
			}
		}
		l, occs = append(l, all(cols...)), append(occs, in)
	}
	for _, a := range []int{1, 6, 8, 15} {
		for _, b := range []int{0, 1, 5, 11, 12} {
			l, occs = append(l, same(a, b)), append(occs, []int{a / 4, b / 4})
		}
	}
	return l, occs
}

// P5.1, P5.2, P5.3: of an expression of each set, and pairs, by each two sets.
func TestOwnNewAndPairsByModel(t *testing.T) {
	l, occs := byOccurrences()
	q := api.Query{P: l}
	list := func(set int) (in []int) {
		for occ := range 4 {
			if set/[]int{1, 2, 4, 8}[occ]%2 == 1 {
				in = append(in, occ)
			}
		}
		return in
	}
	for a := range 16 {
		for b := range 16 {
			var own, anew []int
			var pairs [][2]int
			for i, in := range occs {
				if holds(list(a), in) {
					own = append(own, i)
				} else if !holds(list(b), in) && holds(append(list(a), list(b)...), in) {
					anew = append(anew, i)
					if i >= 16 {
						x, y := l[i].L[0].Col, l[i].L[1].Col
						if !slices.Contains(list(a), x/4) {
							x, y = y, x
						}
						pairs = append(pairs, [2]int{x, y})
					}
				}
			}
			if got := query.Own(q, a); !slices.Equal(got, own) {
				t.Fatalf("set %d: own %v, not %v", a, got, own)
			}
			if got := query.New(q, a, b); !slices.Equal(got, anew) {
				t.Fatalf("sets %d and %d: new %v, not %v", a, b, got, anew)
			}
			if got := query.Pairs(q, a, b); !slices.Equal(got, pairs) {
				t.Fatalf("sets %d and %d: pairs %v, not %v", a, b, got, pairs)
			}
		}
	}
	for i, in := range occs {
		want := 0
		for _, occ := range in {
			want |= 1 << occ
		}
		if got := query.Of(l[i]); got != want {
			t.Errorf("%d: %d, not %d", i, got, want)
		}
	}
}

// eachWay hands on, for each way to put the occurrences of a set together, how often each place is New, and how often Own of one occurrence alone.
func eachWay(q api.Query, set int, do func(anew, alone []int)) {
	count := func(l []int) []int {
		n := make([]int, len(q.P))
		for _, i := range l {
			n[i]++
		}
		return n
	}
	add := func(a, b []int) []int {
		n := slices.Clone(a)
		for i := range b {
			n[i] += b[i]
		}
		return n
	}
	if set&(set-1) == 0 {
		do(count(nil), count(query.Own(q, set)))
		return
	}
	for a := 1; a < set; a++ {
		if a&^set != 0 {
			continue
		}
		here := count(query.New(q, a, set&^a))
		eachWay(q, a, func(n1, o1 []int) {
			eachWay(q, set&^a, func(n2, o2 []int) { do(add(here, add(n1, n2)), add(o1, o2)) })
		})
	}
}

// P5.4: whichever way occurrences are put together, an expression of more than one of them is New just once, and one of just one is never New, but Own of that one.
func TestNewJustOnce(t *testing.T) {
	l, occs := byOccurrences()
	q := api.Query{P: l}
	ways := map[int]int{}
	for set := 1; set < 16; set++ {
		eachWay(q, set, func(anew, alone []int) {
			ways[set]++
			for i, in := range occs {
				wantNew, wantAlone := 0, 0
				of := query.Of(l[i])
				if of&^set == 0 && of&(of-1) != 0 {
					wantNew = 1
				} else if of&^set == 0 && of != 0 {
					wantAlone = 1
				}
				if anew[i] != wantNew || of != 0 && alone[i] != wantAlone {
					t.Fatalf("set %d, expression of %v: new %d times, and own of one %d times", set, in, anew[i], alone[i])
				}
			}
		})
	}
	if ways[1] != 1 || ways[6] != 2 || ways[13] != 12 || ways[15] != 120 {
		t.Fatalf("not all ways: %v", ways)
	}
}

// P5.3: of all lists of up to three pairs, and others.
func TestOrdersByModel(t *testing.T) {
	some := []api.Expr{same(0, 5), same(5, 9), same(14, 3), same(2, 2), col(7)}
	cols := [][]int{{0, 5}, {5, 9}, {14, 3}, nil, nil}
	eachList([]int{0, 1, 2, 3, 4}, 3, func(at []int) {
		for _, by := range []int{-1, 0, 6, 15, 16} {
			for _, ord := range []int{-2, -1, 5, 6, 15, 99} {
				q, there := api.Query{By: by, Ord: ord}, []int{by, ord}
				for _, i := range at {
					q.P, there = append(q.P, some[i]), append(there, cols[i]...)
				}
				want := []int{-1}
				for col := range 16 {
					if slices.Contains(there, col) {
						want = append(want, col)
					}
				}
				if got := query.Orders(q); !slices.Equal(got, want) {
					t.Fatalf("%v: %v, not %v", q, got, want)
				}
			}
		}
	})
}

// answers are all that may be asked of a query.
type answers struct {
	may       bool
	orders    []int
	cols, own []int
	anew      []int
	pairs     [][2]int
}

func ask(c api.Cat, q api.Query, a, b int) answers {
	return answers{query.May(c, q), query.Orders(q), query.Cols(c, q, a), query.Own(q, a), query.New(q, a, b), query.Pairs(q, a, b)}
}

// spoil changes all that an answer's lists hold, and what stands behind them.
func spoil(x answers) {
	for _, l := range [][]int{x.orders, x.cols, x.own, x.anew} {
		for i := range l {
			l[i] = 77
		}
		_ = append(l, 77)
	}
	for i := range x.pairs {
		x.pairs[i] = [2]int{77, 77}
	}
}

// copied is e in memory of its own.
func copied(e api.Expr) api.Expr {
	var l []api.Expr
	for _, p := range e.L {
		l = append(l, copied(p))
	}
	e.L = l
	return e
}

// copiedQuery is q in memory of its own.
func copiedQuery(q api.Query) api.Query {
	var l []api.Expr
	for _, e := range q.P {
		l = append(l, copied(e))
	}
	q.Occ, q.P, q.Sums, q.Out = slices.Clone(q.Occ), l, slices.Clone(q.Sums), slices.Clone(q.Out)
	return q
}

// R3, R5: what is handed in stays as it was, and what is answered is the caller's own.
func TestStays(t *testing.T) {
	l, _ := byOccurrences()
	for i, q := range append(rightQueries(), asked(), api.Query{P: l, By: 3, Ord: 4}) {
		c, was := tables(), copiedQuery(q)
		for _, sets := range [][2]int{{1, 2}, {7, 8}, {5, 10}, {15, 0}, {-1, 3}} {
			first := ask(c, q, sets[0], sets[1])
			again := ask(c, q, sets[0], sets[1])
			spoil(first)
			third := ask(c, q, sets[0], sets[1])
			if !reflect.DeepEqual(again, third) {
				t.Errorf("%d: %v, and then %v", i, again, third)
			}
		}
		if !reflect.DeepEqual(copiedQuery(q), was) || !slices.Equal(c.T, tables().T) {
			t.Errorf("%d is changed: %v, was %v", i, q, was)
		}
	}
}

// P1, R1, R5: every call comes back, whatever it is of, and with the same the next time; what it tells of a query that may not be is within bounds.
func TestAnyArguments(t *testing.T) {
	numbers := []int{least, -16, -1, 0, 1, 3, 9, 15, 16, most}
	wrongCats := []api.Cat{{}, {T: []api.Def{{}}}, {T: []api.Def{{Cols: 5, Rows: 1}}}, {T: slices.Repeat([]api.Def{{Cols: 1, Rows: 1}}, 5)}, {T: []api.Def{{Cols: most, Rows: most}, {Cols: least, Rows: least}}}}
	for i, q := range append(rightQueries(), wrongQueries()...) {
		for j, c := range append(wrongCats, tables(), full()) {
			if j < len(wrongCats) && query.May(c, q) {
				t.Errorf("%d may be by catalog %d, which may not be", i, j)
			}
			for _, a := range numbers {
				for _, b := range numbers {
					one, two := ask(c, q, a, b), ask(c, q, a, b)
					if !reflect.DeepEqual(one, two) {
						t.Fatalf("%d, %d: sets %d and %d: %v, and then %v", i, j, a, b, one, two)
					}
					if !one.may && len(one.cols) > 0 || len(one.own)+len(one.anew) > len(q.P) || len(one.pairs) > len(one.anew) {
						t.Fatalf("%d, %d: sets %d and %d: %v", i, j, a, b, one)
					}
				}
			}
		}
	}
}
