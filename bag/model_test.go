package bag_test

import (
	"slices"
	"testing"

	"roadbook/api"
	"roadbook/bag"
	"roadbook/expr"
	"roadbook/val"
)

// smallValues are some of each kind, and some that may not be.
func smallValues() []api.Val {
	return []api.Val{n(0), n(1), n(-1), null, bad, {K: 3}, {K: 1, N: 2}}
}

// eachBag hands on all bags of two columns, with at most long of some rows, among which one lacks its last value.
func eachBag(long int, do func(b api.Bag)) {
	rows := [][]api.Val{row(7)}
	for _, v := range smallValues() {
		rows = append(rows, []api.Val{n(len(rows) % 3), v})
	}
	var more func(b api.Bag)
	more = func(b api.Bag) {
		do(b)
		if len(b.Rows) == long {
			return
		}
		for _, r := range rows {
			more(api.Bag{Cols: b.Cols, Rows: append(slices.Clip(b.Rows), r)})
		}
	}
	more(api.Bag{Cols: []int{2, 9}})
}

// often is how often a row is in a bag.
func often(b api.Bag, r []api.Val) int {
	k := 0
	for _, x := range b.Rows {
		if slices.Equal(x, r) {
			k++
		}
	}
	return k
}

// as is the value of a row for the order.
func as(r []api.Val, place int) api.Val {
	if place >= len(r) {
		return n(0)
	}
	return r[place]
}

// P3.3, P3.5: what is sorted is the same bag, is in order, and has those of one value as they were.
func TestSortByModel(t *testing.T) {
	eachBag(4, func(b api.Bag) {
		for place, c := range b.Cols {
			got := bag.Sort(b, c)
			// Rows are laid in one by one, each ahead of the first that is above it.
			want := api.Bag{Cols: b.Cols}
			for _, r := range b.Rows {
				at := slices.IndexFunc(want.Rows, func(x []api.Val) bool { return val.Less(as(r, place), as(x, place)) })
				if at < 0 {
					at = len(want.Rows)
				}
				want.Rows = slices.Insert(want.Rows, at, r)
			}
			if !equal(got, want) || !bag.Sorted(got, c) || !bag.Same(b, got) || bag.Sorted(b, c) != equal(b, want) {
				t.Fatalf("by %d: %v: %v, not %v", c, b, got, want)
			}
		}
	})
}

// P3.1
func TestSameByModel(t *testing.T) {
	var all []api.Bag
	eachBag(3, func(b api.Bag) { all = append(all, b) })
	for _, a := range all {
		for _, b := range all {
			want := len(a.Rows) == len(b.Rows)
			for _, r := range a.Rows {
				want = want && often(a, r) == often(b, r)
			}
			if bag.Same(a, b) != want {
				t.Fatalf("%v and %v: %v", a, b, !want)
			}
		}
	}
}

// P3.2, P3.5: Keep one behind the other is Keep of all of it, in any order, and has the rows that each keeps.
func TestKeepByModel(t *testing.T) {
	l := []api.Expr{two(api.Below, col(2), con(n(2))), two(api.Same, col(9), con(n(0))), two(api.Below, col(9), con(n(1))), {Op: api.None, L: []api.Expr{col(9)}}, col(9), con(n(1)), {Op: 99}, two(api.Over, col(2), col(9))}
	eachBag(3, func(b api.Bag) {
		for _, x := range l {
			for _, y := range l {
				both, one := bag.Keep(b, []api.Expr{x, y}), bag.Keep(bag.Keep(b, []api.Expr{x}), []api.Expr{y})
				other := bag.Keep(bag.Keep(b, []api.Expr{y}), []api.Expr{x})
				want := api.Bag{Cols: b.Cols}
				for _, r := range b.Rows {
					if expr.Keeps(x, b.Cols, r) && expr.Keeps(y, b.Cols, r) {
						want.Rows = append(want.Rows, r)
					}
				}
				if !equal(both, want) || !equal(one, want) || !equal(other, want) {
					t.Fatalf("%v: %v, %v, %v, not %v", b, both, one, other, want)
				}
			}
		}
	})
}

// P3.4: each value once, by rising value, with as many rows as have it, and the sum of these.
func TestGroupByModel(t *testing.T) {
	eachBag(4, func(b api.Bag) {
		got, ok := bag.Group(b, 9, []int{2, 9})
		if ok != bag.May(b) {
			t.Fatalf("%v: %v", b, ok)
		}
		rows, seen := got.Rows, 0
		for _, v := range []api.Val{n(-1), n(0), n(1), null, bad} {
			var twos, nines []api.Val
			for _, r := range b.Rows {
				if ok && r[1] == v {
					twos, nines = append(twos, r[0]), append(nines, r[1])
				}
			}
			if len(twos) == 0 {
				continue
			}
			want := []api.Val{v, n(len(twos)), val.Sum(twos...), val.Sum(nines...)}
			if seen >= len(rows) || !slices.Equal(rows[seen], want) {
				t.Fatalf("%v: %v, and not %v", b, rows, want)
			}
			seen++
		}
		if seen != len(rows) {
			t.Fatalf("%v: %v", b, rows)
		}
	})
}

// shared tells of a change to one list of an answer that is seen in another one, or in what was handed in.
func shared(t *testing.T, name string, do func(b api.Bag) api.Bag) {
	// The rows stand in one piece of memory, and one is there twice.
	memory := []api.Val{n(1), n(2), n(3), n(4), n(5), n(6)}
	b := api.Bag{Cols: []int{2, 9, 4}[:2], Rows: [][]api.Val{memory[0:2], memory[2:4], memory[0:2], memory[4:6]}}
	was := copied(b)
	got := do(b)
	told := copied(got)
	if !equal(b, was) {
		t.Errorf("%s changes what is handed in", name)
	}
	got.Cols = append(got.Cols[:1], 99)
	for i := range got.Rows {
		for j := range got.Rows[i] {
			got.Rows[i][j] = n(70 + i)
		}
		got.Rows[i] = append(got.Rows[i][:len(got.Rows[i]):cap(got.Rows[i])], n(50))
	}
	for i, r := range got.Rows {
		for _, v := range r[:len(r)-1] {
			if v != n(70+i) {
				t.Errorf("%s: two rows of an answer share memory", name)
			}
		}
	}
	if !equal(b, was) || memory[5] != n(6) {
		t.Errorf("%s: what is answered shares memory with what is handed in", name)
	}
	again := do(b)
	for i := range memory {
		memory[i] = n(90)
	}
	b.Cols[0] = 90
	if !equal(again, told) {
		t.Errorf("%s: what is answered changes with what was handed in", name)
	}
}

// R3
func TestNothingShared(t *testing.T) {
	cols := []int{9, 2}
	for name, do := range map[string]func(b api.Bag) api.Bag{
		"Cross":       func(b api.Bag) api.Bag { x, _ := bag.Cross(b, of([]int{1}, row(1), row(2))); return x },
		"Cross of 1":  func(b api.Bag) api.Bag { x, _ := bag.Cross(b, of(nil, nil)); return x },
		"Cross by 1":  func(b api.Bag) api.Bag { x, _ := bag.Cross(of(nil, nil, nil), b); return x },
		"Keep":        func(b api.Bag) api.Bag { return bag.Keep(b, nil) },
		"Keep of one": func(b api.Bag) api.Bag { return bag.Keep(b, []api.Expr{con(n(1))}) },
		"Pick":        func(b api.Bag) api.Bag { x, _ := bag.Pick(b, cols); return x },
		"Sort":        func(b api.Bag) api.Bag { return bag.Sort(b, 9) },
		"Sort of all": func(b api.Bag) api.Bag { return bag.Sort(b, 77) },
		"Group":       func(b api.Bag) api.Bag { x, _ := bag.Group(b, 2, cols); return x },
	} {
		shared(t, name, do)
	}
	if !slices.Equal(cols, []int{9, 2}) {
		t.Errorf("Pick's columns are another's: %v", cols)
	}
	same := three()
	if bag.May(same); !bag.Same(same, same) || !bag.Sorted(same, 1) || !equal(same, three()) {
		t.Errorf("what is asked of is changed")
	}
}

// P1, R5: all bags, also those that may not be, with all columns; and the answer is the same when it is asked again.
func TestAnyArguments(t *testing.T) {
	loop := api.Expr{Op: api.None, L: make([]api.Expr, 1)}
	loop.L[0] = loop
	all := append(append(right(), wrong()...), api.Bag{Cols: nil, Rows: [][]api.Val{nil, row(1)}})
	for i, a := range all {
		for _, c := range []int{least, -1, 0, 1, 4, 15, 16, most} {
			if !equal(bag.Sort(a, c), bag.Sort(a, c)) || bag.Sorted(a, c) != bag.Sorted(a, c) || !bag.Sorted(bag.Sort(a, c), c) {
				t.Errorf("%d: by %d", i, c)
			}
			g, ok := bag.Group(a, c, []int{c})
			if h, also := bag.Group(a, c, []int{c}); !equal(g, h) || ok != also {
				t.Errorf("%d: group by %d", i, c)
			}
		}
		if got := bag.Keep(a, []api.Expr{loop}); len(got.Rows) != 0 || !slices.Equal(got.Cols, a.Cols) {
			t.Errorf("%d: an expression that has itself for a part keeps rows", i)
		}
		for _, b := range all {
			if c, ok := bag.Cross(a, b); ok && !bag.May(c) || !ok && (c.Cols != nil || c.Rows != nil) {
				t.Errorf("%d: cross", i)
			}
			if bag.Same(a, b) != bag.Same(b, a) {
				t.Errorf("%d: same", i)
			}
		}
	}
}
