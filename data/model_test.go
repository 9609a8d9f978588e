package data_test

import (
	"slices"
	"testing"

	"roadbook/api"
	"roadbook/bag"
	"roadbook/data"
)

// eachList hands on all lists of at most long of some.
func eachList[T any](some []T, long int, do func(l []T)) {
	var more func(l []T)
	more = func(l []T) {
		do(l)
		if len(l) == long {
			return
		}
		for _, x := range some {
			more(append(slices.Clip(l), x))
		}
	}
	more(nil)
}

// P4.1: all catalogs of at most five of some tables, by the words alone.
func TestMayByModel(t *testing.T) {
	defs := []api.Def{{Cols: 1, Rows: 1}, {Cols: 4, Rows: 1000000}, {Cols: 2, Rows: 7}, {}, {Cols: 5, Rows: 1}, {Cols: 1, Rows: 1000001}, {Cols: 0, Rows: 1}, {Cols: 1, Rows: 0}}
	eachList(defs, 5, func(l []api.Def) {
		want := len(l) >= 1 && len(l) <= 4
		for _, def := range l {
			want = want && (def == defs[0] || def == defs[1] || def == defs[2])
		}
		got, ok := data.New(l...)
		if data.May(api.Cat{T: l}) != want || ok != want || ok && !slices.Equal(got.T, l) || !ok && got.T != nil {
			t.Fatalf("%v: %v, %v, not %v", l, got, ok, want)
		}
	})
}

// P4.2, P4.4, P4.5: some rows of up to three tables, of all catalogs of up to three: where all of them fit, and there alone, Of tells each of the tables, as each occurrence.
func TestOfByModel(t *testing.T) {
	defs := []api.Def{{Cols: 1, Rows: 5}, {Cols: 2, Rows: 5}, {Cols: 5, Rows: 5}}
	tables := [][][]api.Val{nil, rowsOf(8, 1), rowsOf(9, 1), rowsOf(3, 2), {{n(1), null}, {bad, n(1)}}, {row(1), row(1, 2)}, {{{K: 3}}}, {row(1), {{K: api.Null, N: 1}}}}
	ones, twos := []int{0, 1}, []int{0, 3, 4} // which of the tables fit one of 1 column, and one of 2
	var places []int
	for i := range tables {
		places = append(places, i)
	}
	eachList(defs, 3, func(l []api.Def) {
		c := api.Cat{T: l}
		eachList(places, 3, func(at []int) {
			d, want := api.Data{}, len(l) > 0 && len(at) == len(l)
			for i, place := range at {
				d.T = append(d.T, tables[place])
				want = want && (l[i].Cols == 1 && slices.Contains(ones, place) || l[i].Cols == 2 && slices.Contains(twos, place))
			}
			if data.Fits(c, d) != want {
				t.Fatalf("%v, %v: %v", c, at, !want)
			}
			ofEach(t, c, d, want)
		})
	})
}

// ofEach tells of a table, of an occurrence, or of what is beyond them, of which Of does not tell what it must.
func ofEach(t *testing.T, c api.Cat, d api.Data, fit bool) {
	for table := -1; table <= len(c.T); table++ {
		for occ := -1; occ <= 4; occ++ {
			got, ok := data.Of(c, d, table, occ)
			if want := fit && table >= 0 && table < len(c.T) && occ >= 0 && occ < 4; ok != want {
				t.Fatalf("%v, %v, table %d, occurrence %d: %v", c, d, table, occ, ok)
			}
			if !ok {
				if got.Cols != nil || got.Rows != nil {
					t.Fatalf("%v, %v, table %d, occurrence %d: %v", c, d, table, occ, got)
				}
				continue
			}
			cols := []int{4 * occ, 4*occ + 1}[:c.T[table].Cols]
			if !bag.May(got) || !equal(got, api.Bag{Cols: cols, Rows: d.T[table]}) {
				t.Fatalf("%v, %v, table %d, occurrence %d: %v", c, d, table, occ, got)
			}
		}
	}
}

// R3, R5: New's catalog is the caller's own, and stays what it is when the list is changed.
func TestNewIsOwn(t *testing.T) {
	l := []api.Def{{Cols: 1, Rows: 2}, {Cols: 3, Rows: 4}, {Cols: 9, Rows: 9}}
	c, _ := data.New(l[:2]...)
	l[0] = api.Def{Cols: 4, Rows: 4}
	if !slices.Equal(c.T, []api.Def{{Cols: 1, Rows: 2}, {Cols: 3, Rows: 4}}) {
		t.Errorf("the catalog changes with the list: %v", c)
	}
	c.T[1] = api.Def{Cols: 2, Rows: 2}
	_ = append(c.T, api.Def{})
	if !slices.Equal(l, []api.Def{{Cols: 4, Rows: 4}, {Cols: 3, Rows: 4}, {Cols: 9, Rows: 9}}) {
		t.Errorf("the list changes with the catalog: %v", l)
	}
}

// R3, R5: Of's bag shares nothing with the rows that are handed in, nor do two of its rows.
func TestOfIsOwn(t *testing.T) {
	// The rows stand in one piece of memory, and one is there twice.
	memory := row(1, 2, 3, 4, 5, 6)
	c, d := two(), rows([][]api.Val{memory[0:2], memory[2:4], memory[0:2]}, nil)
	got, _ := data.Of(c, d, 0, 2)
	again, _ := data.Of(c, d, 0, 2)
	got.Cols[0] = 99
	for i := range got.Rows {
		got.Rows[i][0], got.Rows[i][1] = n(70+i), n(80+i)
		_ = append(got.Rows[i], n(50))
	}
	for i, r := range got.Rows {
		if !slices.Equal(r, row(70+i, 80+i)) {
			t.Errorf("two rows of an answer share memory")
		}
	}
	if !slices.Equal(memory, row(1, 2, 3, 4, 5, 6)) || len(d.T[0]) != 3 || !slices.Equal(c.T, two().T) {
		t.Errorf("what is handed in changes with what is answered")
	}
	for i := range memory {
		memory[i] = n(90)
	}
	d.T[0][1], c.T[0] = nil, api.Def{}
	if !equal(again, api.Bag{Cols: []int{8, 9}, Rows: [][]api.Val{row(1, 2), row(3, 4), row(1, 2)}}) {
		t.Errorf("what is answered changes with what was handed in: %v", again)
	}
}

// P1, R3, R5: all catalogs, rows, tables and occurrences come back, twice the same, and stay as they were.
func TestAnyArguments(t *testing.T) {
	numbers := []int{least, -1, 0, 1, 3, 4, most}
	for i, c := range append(append(rightCats(), wrongCats()...), two()) {
		was := slices.Clone(c.T)
		for j, d := range append(rightRows(), wrongRows()...) {
			for _, table := range numbers {
				for _, occ := range numbers {
					a, ok := data.Of(c, d, table, occ)
					b, also := data.Of(c, d, table, occ)
					if ok != also || !equal(a, b) || ok && (!bag.May(a) || !data.Fits(c, d)) {
						t.Errorf("%d, %d: table %d, occurrence %d: %v, %v", i, j, table, occ, ok, also)
					}
				}
			}
		}
		if !slices.Equal(c.T, was) {
			t.Errorf("%d is changed: %v", i, c)
		}
	}
}
