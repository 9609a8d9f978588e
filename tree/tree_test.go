package tree_test

import (
	"math"
	"slices"
	"strings"
	"testing"

	"roadbook/api"
	"roadbook/tree"
)

const most, least = math.MaxInt, math.MinInt

func leaf(occ int) api.Tree { return api.Tree{Occ: occ} }

func of(l ...api.Tree) api.Tree { return api.Tree{L: l} }

// at is t with that number.
func at(occ int, t api.Tree) api.Tree {
	t.Occ = occ
	return t
}

// chain is one that is so many deep, each of two trees, the last one ahead, or behind.
func chain(deep int, behind bool) api.Tree {
	t := leaf(0)
	for i := range deep - 1 {
		t = of(t, leaf(i%4))
		if behind {
			slices.Reverse(t.L)
		}
	}
	return t
}

// ring has itself for its first tree, or for its second one.
func ring(place int) api.Tree {
	t := of(leaf(0), leaf(1))
	t.L[place] = t
	return t
}

// fork has itself for all its trees.
func fork(trees int) api.Tree {
	t := api.Tree{L: make([]api.Tree, trees)}
	for i := range t.L {
		t.L[i] = t
	}
	return t
}

// right are trees that may be, with their sets, and texts.
func right() []struct {
	t    api.Tree
	set  int
	text string
} {
	return []struct {
		t    api.Tree
		set  int
		text string
	}{
		{api.Tree{}, 1, "0"}, {leaf(0), 1, "0"}, {leaf(1), 2, "1"}, {leaf(2), 4, "2"}, {leaf(3), 8, "3"}, {api.Tree{Occ: 3, L: []api.Tree{}}, 8, "3"},
		{of(leaf(0), leaf(1)), 3, "(01)"}, {of(leaf(1), leaf(0)), 3, "(10)"}, {of(leaf(3), leaf(0)), 9, "(30)"}, {of(leaf(2), api.Tree{Occ: 3, L: []api.Tree{}}), 12, "(23)"},
		{of(of(leaf(0), leaf(1)), leaf(2)), 7, "((01)2)"}, {of(leaf(2), of(leaf(0), leaf(1))), 7, "(2(01))"}, {of(leaf(2), of(leaf(0), leaf(3))), 13, "(2(03))"}, {of(of(leaf(3), leaf(1)), leaf(2)), 14, "((31)2)"},
		{of(of(of(leaf(0), leaf(1)), leaf(2)), leaf(3)), 15, "(((01)2)3)"}, {of(leaf(3), of(leaf(2), of(leaf(1), leaf(0)))), 15, "(3(2(10)))"},
		{of(of(leaf(0), leaf(1)), of(leaf(3), leaf(2))), 15, "((01)(32))"}, {of(of(leaf(1), of(leaf(3), leaf(0))), leaf(2)), 15, "((1(30))2)"}, {of(leaf(0), of(of(leaf(3), leaf(1)), leaf(2))), 15, "(0((31)2))"},
	}
}

// wrong are trees that may not be, most of them for one cause.
func wrong() []api.Tree {
	pair := of(leaf(0), leaf(1))
	l := []api.Tree{
		leaf(-1), leaf(4), leaf(5), leaf(63), leaf(64), leaf(-64), leaf(most), leaf(least),
		of(leaf(0)), of(leaf(2)), of(pair), of(of(of(leaf(3)))), {Occ: 1, L: []api.Tree{leaf(1)}},
		of(leaf(0), leaf(1), leaf(2)), of(leaf(0), leaf(1), leaf(2), leaf(3)), of(pair, leaf(2), leaf(3)), of(make([]api.Tree, 1000)...),
		at(1, pair), at(2, pair), at(3, pair), at(-1, pair), at(4, pair), at(most, pair), at(least, pair), at(2, of(leaf(0), of(leaf(1), leaf(3)))),
		of(leaf(0), leaf(0)), of(leaf(3), leaf(3)), of(pair, leaf(1)), of(leaf(0), pair), of(pair, pair), of(pair, of(leaf(2), leaf(0))), of(pair, of(leaf(1), leaf(3))),
		of(of(of(leaf(0), leaf(1)), leaf(2)), leaf(0)), of(leaf(3), of(leaf(1), of(leaf(2), leaf(3)))), of(of(leaf(2), of(leaf(1), leaf(0))), leaf(0)), of(of(leaf(3), pair), of(leaf(2), leaf(0))),
		chain(5, false), chain(5, true), chain(6, false), chain(100, true), chain(1<<16, false), chain(1<<16, true),
		of(chain(4, false), leaf(0)), of(of(pair, of(leaf(2), leaf(3))), leaf(0)), of(of(pair, of(leaf(2), leaf(3))), of(pair, of(leaf(2), leaf(3)))),
		ring(0), ring(1), fork(1), fork(2), fork(3),
	}
	for _, t := range slices.Clone(l) {
		l = append(l, of(t, leaf(3)), of(leaf(3), t), of(of(leaf(2), t), leaf(3)))
	}
	return l
}

// P6.1
func TestMayAndSet(t *testing.T) {
	for i, x := range right() {
		if !tree.May(x.t) {
			t.Errorf("%d: %s may not be", i, x.text)
		}
		if got := tree.Set(x.t); got != x.set {
			t.Errorf("%d: %s: set %d, not %d", i, x.text, got, x.set)
		}
	}
	for i, x := range wrong() {
		if tree.May(x) {
			t.Errorf("%d may be", i)
		}
		if got := tree.Set(x); got != 0 {
			t.Errorf("%d may not be, but has the set %d", i, got)
		}
	}
}

// P6.1: just the order, or just one part, is another one.
func TestSame(t *testing.T) {
	for i, a := range right() {
		for j, b := range right() {
			if got, want := tree.Same(a.t, b.t), a.text == b.text; got != want {
				t.Errorf("%d, %d: %s and %s: %v", i, j, a.text, b.text, got)
			}
		}
	}
	base := func() api.Tree {
		return of(at(1, of(leaf(0), leaf(1))), of(leaf(2)), of(leaf(5), leaf(-1), of(leaf(0))))
	}
	if !tree.Same(base(), base()) {
		t.Error("it is not the same as itself")
	}
	for i, change := range []func(t *api.Tree){
		func(t *api.Tree) { t.Occ = 1 },
		func(t *api.Tree) { t.L = nil },
		func(t *api.Tree) { t.L = t.L[:2] },
		func(t *api.Tree) { t.L = append(t.L, leaf(0)) },
		func(t *api.Tree) { t.L[0], t.L[1] = t.L[1], t.L[0] },
		func(t *api.Tree) { t.L[0].Occ = 0 },
		func(t *api.Tree) { slices.Reverse(t.L[0].L) },
		func(t *api.Tree) { t.L[0].L[1].Occ = 2 },
		func(t *api.Tree) { t.L[0].L[1].L = []api.Tree{leaf(0)} },
		func(t *api.Tree) { t.L[1].L = nil },
		func(t *api.Tree) { t.L[1].L[0].Occ = most },
		func(t *api.Tree) { t.L[2].L[1].Occ = -2 },
		func(t *api.Tree) { t.L[2].L[2].L[0].Occ = 1 },
		func(t *api.Tree) { t.L[2].L[2].L = append(t.L[2].L[2].L, leaf(0)) },
	} {
		other := base()
		change(&other)
		if tree.Same(base(), other) || tree.Same(other, base()) {
			t.Errorf("%d: they are the same", i)
		}
	}
	if !tree.Same(leaf(2), api.Tree{Occ: 2, L: []api.Tree{}}) || !tree.Same(of(leaf(0)), of(api.Tree{L: []api.Tree{}})) {
		t.Error("R6: a nil list and an empty one are not the same")
	}
}

// P6.1: whether they may be is not asked.
func TestSameOfWhatMayNotBe(t *testing.T) {
	for i, anew := range []func() api.Tree{
		func() api.Tree { return leaf(-1) }, func() api.Tree { return leaf(most) }, func() api.Tree { return of(leaf(4)) }, func() api.Tree { return at(7, of(leaf(0), leaf(0))) },
		func() api.Tree { return chain(5, false) }, func() api.Tree { return chain(1<<16, false) }, func() api.Tree { return chain(1<<16, true) }, func() api.Tree { return of(slices.Repeat([]api.Tree{leaf(1)}, 100000)...) },
	} {
		a, b := anew(), anew()
		if !tree.Same(a, b) {
			t.Errorf("%d is not the same as itself", i)
		}
		last := &b
		for len(last.L) > 0 {
			last = &last.L[len(last.L)-1]
		}
		last.Occ--
		if tree.Same(a, b) || tree.Same(b, a) {
			t.Errorf("%d is the same as another one", i)
		}
	}
	if tree.Same(leaf(-1), leaf(4)) || tree.Same(chain(5, false), chain(5, true)) || tree.Same(chain(6, true), chain(7, true)) || tree.Same(of(leaf(0)), leaf(0)) {
		t.Error("two that may not be are the same")
	}
}

// P6.1: it is that of the number, whether or not it may be.
func TestLeaf(t *testing.T) {
	for _, occ := range []int{least, -1, 0, 1, 2, 3, 4, 64, most} {
		got := tree.Leaf(occ)
		if got.Occ != occ || len(got.L) != 0 {
			t.Errorf("%d: %v", occ, got)
		}
		if tree.May(got) != (occ >= 0 && occ <= 3) {
			t.Errorf("%d: may it be: %v", occ, tree.May(got))
		}
	}
}

// P6.1: it is that of both, whether or not it may be.
func TestJoin(t *testing.T) {
	for i, a := range right() {
		for j, b := range right() {
			got := tree.Join(a.t, b.t)
			if got.Occ != 0 || len(got.L) != 2 || !tree.Same(got.L[0], a.t) || !tree.Same(got.L[1], b.t) {
				t.Errorf("%d, %d: %v", i, j, got)
			}
			set, text := a.set|b.set, "("+a.text+b.text+")"
			if a.set&b.set != 0 {
				set, text = 0, ""
			}
			if tree.May(got) != (set != 0) || tree.Set(got) != set || tree.Text(got) != text {
				t.Errorf("%d, %d: set %d, text %s, not %d, %s", i, j, tree.Set(got), tree.Text(got), set, text)
			}
		}
	}
	for i, x := range []api.Tree{leaf(-1), leaf(4), at(3, of(leaf(0), leaf(1))), of(leaf(0)), of(leaf(0), leaf(1), at(5, of(leaf(2)))), chain(5, true), chain(1<<15, false), of(make([]api.Tree, 1000)...)} {
		for j, got := range []api.Tree{tree.Join(x, leaf(3)), tree.Join(leaf(3), x), tree.Join(x, x)} {
			want := []api.Tree{of(x, leaf(3)), of(leaf(3), x), of(x, x)}[j]
			if tree.May(got) || !tree.Same(got, want) {
				t.Errorf("%d, %d: %v", i, j, tree.May(got))
			}
		}
	}
}

// P6.2
func TestText(t *testing.T) {
	for i, x := range right() {
		if got := tree.Text(x.t); got != x.text {
			t.Errorf("%d: %q, not %q", i, got, x.text)
		}
	}
	for i, x := range wrong() {
		if got := tree.Text(x); got != "" {
			t.Errorf("%d may not be, but has the text %q", i, got)
		}
	}
}

// P6.2
func TestRead(t *testing.T) {
	for i, x := range right() {
		if got, ok := tree.Read(x.text); !ok || !tree.Same(got, x.t) {
			t.Errorf("%d: %s: %v, %v", i, x.text, got, ok)
		}
	}
}

// P6.2
func TestReadNothing(t *testing.T) {
	for i, s := range []string{
		"", " ", "(", ")", "4", "5", "9", "-", "/", ":", "a", "\x00", "\xff", "é", "０", "٣", "（", "\U0001F333",
		"()", ")(", "(0)", "(3)", "((01))", "((0)1)", "(0(1))", "(()1)", "(0())", "(01()", "()01", "(01)()", "0()", "()0",
		"01", "0123", "(012)", "(0123)", "((01)23)", "(0(12)3)", "(01)2", "0(12)", "(01)(23)", "((01)2)3", "(01)0",
		"(01", "01)", "((01)2", "(01)2)", "((012)", "(((01)2)3", "(01))", "((01)", "(((01)2)3))", "((((01)2)3)", ")01(", "0(1)", "(0)1", "0)1(", "(0)(1)", "(0(1)2)",
		"(00)", "(33)", "((01)1)", "(0(10))", "((01)(02))", "(((01)2)0)", "(3(2(13)))", "(((01)2)2)", "((((01)2)3)0)", "((01)(01))",
		" 0", "0 ", "( 01)", "(0 1)", "(0,1)", "(01)\n", "\n(01)", "00", "-0", "+1", "03", "10", "(0-1)", "(04)", "(41)", "(0a)", "[01]", "(0１)", "(0é)", "（01）", "(01\xff)", "\xff(01)", "(01)\x00",
		"(((01)2)3)0", "(((01)2)(34))", strings.Repeat("(", 10), strings.Repeat("0", 10), strings.Repeat(")", 10), strings.Repeat("(", 1<<20), strings.Repeat("0", 1<<20), strings.Repeat("(", 1<<20) + "01" + strings.Repeat(")", 1<<20), strings.Repeat("é", 5),
	} {
		if got, ok := tree.Read(s); ok || got.Occ != 0 || len(got.L) != 0 {
			t.Errorf("%d: %.20q: %v, %v", i, s, got, ok)
		}
	}
}

// P6.3
func TestFirst(t *testing.T) {
	for _, x := range []struct {
		n    int
		want api.Tree
	}{
		{1, leaf(0)}, {2, of(leaf(0), leaf(1))}, {3, of(of(leaf(0), leaf(1)), leaf(2))}, {4, of(of(of(leaf(0), leaf(1)), leaf(2)), leaf(3))},
		{0, api.Tree{}}, {-1, api.Tree{}}, {5, api.Tree{}}, {6, api.Tree{}}, {most, api.Tree{}}, {least, api.Tree{}},
	} {
		if got := tree.First(x.n); !tree.Same(got, x.want) {
			t.Errorf("%d: %v, not %v", x.n, got, x.want)
		}
	}
	for n := 1; n <= 4; n++ {
		if got := tree.Set(tree.First(n)); got != 1<<n-1 {
			t.Errorf("%d: set %d", n, got)
		}
	}
}

// texts are those of trees, one behind the other.
func texts(l []api.Tree) string {
	var s []string
	for _, t := range l {
		s = append(s, tree.Text(t))
	}
	return strings.Join(s, " ")
}

// P6.3
func TestAll(t *testing.T) {
	for _, x := range []struct {
		set  int
		want string
	}{
		{1, "0"}, {2, "1"}, {4, "2"}, {8, "3"}, {3, "(01) (10)"}, {5, "(02) (20)"}, {6, "(12) (21)"}, {9, "(03) (30)"}, {10, "(13) (31)"}, {12, "(23) (32)"},
		{7, "(0(12)) (0(21)) (1(02)) (1(20)) ((01)2) ((10)2) (2(01)) (2(10)) ((02)1) ((20)1) ((12)0) ((21)0)"},
		{11, "(0(13)) (0(31)) (1(03)) (1(30)) ((01)3) ((10)3) (3(01)) (3(10)) ((03)1) ((30)1) ((13)0) ((31)0)"},
		{13, "(0(23)) (0(32)) (2(03)) (2(30)) ((02)3) ((20)3) (3(02)) (3(20)) ((03)2) ((30)2) ((23)0) ((32)0)"},
		{14, "(1(23)) (1(32)) (2(13)) (2(31)) ((12)3) ((21)3) (3(12)) (3(21)) ((13)2) ((31)2) ((23)1) ((32)1)"},
		{-1, ""}, {0, ""}, {16, ""}, {17, ""}, {-16, ""}, {1 << 32, ""}, {most, ""}, {least, ""},
	} {
		if got := texts(tree.All(x.set)); got != x.want {
			t.Errorf("%d: %s, not %s", x.set, got, x.want)
		}
	}
	l := tree.All(15)
	for i, want := range map[int]string{0: "(0(1(23)))", 1: "(0(1(32)))", 11: "(0((32)1))", 12: "(1(0(23)))", 24: "((01)(23))", 27: "((10)(32))", 28: "(2(0(13)))", 48: "((0(12))3)", 60: "(3(0(12)))", 72: "((03)(12))", 119: "(((32)1)0)"} {
		if len(l) != 120 || tree.Text(l[i]) != want {
			t.Errorf("15: %d trees, %d is not %s", len(l), i, want)
		}
	}
}

// P6.4
func TestHowMany(t *testing.T) {
	for set := -1; set <= 16; set++ {
		want := 0
		if set >= 1 && set <= 15 {
			want = []int{1, 2, 12, 120}[set&1+set>>1&1+set>>2&1+set>>3&1-1]
		}
		l := tree.All(set)
		if len(l) != want {
			t.Errorf("%d: %d, not %d", set, len(l), want)
		}
		for i, a := range l {
			if !tree.May(a) || tree.Set(a) != set {
				t.Errorf("%d: %d has the set %d", set, i, tree.Set(a))
			}
			for j, b := range l[:i] {
				if tree.Same(a, b) || tree.Text(a) == tree.Text(b) {
					t.Errorf("%d: %d and %d are the same", set, j, i)
				}
			}
		}
	}
}
