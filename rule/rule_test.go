package rule_test

import (
	"math"
	"slices"
	"strings"
	"testing"

	"roadbook/api"
	"roadbook/rule"
	"roadbook/tree"
)

const most, least = math.MaxInt, math.MinInt

func leaf(occ int) api.Tree { return api.Tree{Occ: occ} }

func of(l ...api.Tree) api.Tree { return api.Tree{L: l} }

// at is t with that number.
func at(occ int, t api.Tree) api.Tree {
	t.Occ = occ
	return t
}

// read is the tree that may be of that text.
func read(t *testing.T, s string) api.Tree {
	t.Helper()
	x, ok := tree.Read(s)
	if !ok {
		t.Fatalf("%q is no tree", s)
	}
	return x
}

// texts are those of trees, one behind the other.
func texts(l []api.Tree) string {
	var s []string
	for _, t := range l {
		s = append(s, tree.Text(t))
	}
	return strings.Join(s, " ")
}

// isZero tells whether nothing of t is set.
func isZero(t api.Tree) bool { return t.Occ == 0 && t.L == nil }

// chain is one that is so many deep, each of two trees, the last one ahead, or behind.
func chain(deep int, behind bool) api.Tree {
	t := leaf(0)
	for i := range deep - 1 {
		t = of(t, leaf(i%4))
		if behind {
			slices.Reverse(t.L)
		}
	}
	return t
}

// ring has itself for its first tree, or for its second one.
func ring(place int) api.Tree {
	t := of(leaf(0), leaf(1))
	t.L[place] = t
	return t
}

// fork has itself for all its trees.
func fork(trees int) api.Tree {
	t := api.Tree{L: make([]api.Tree, trees)}
	for i := range t.L {
		t.L[i] = t
	}
	return t
}

// wrong are trees that may not be; to many of them a rule would do something, were that not asked.
func wrong() []api.Tree {
	pair, other := of(leaf(0), leaf(1)), of(leaf(2), leaf(3))
	l := []api.Tree{
		leaf(-1), leaf(4), leaf(5), leaf(64), leaf(most), leaf(least), at(4, api.Tree{L: []api.Tree{}}),
		of(leaf(0)), of(pair), of(of(of(pair))), at(1, of(leaf(1))), of(leaf(0), leaf(1), leaf(2)), of(pair, leaf(2), leaf(3)), of(pair, other, leaf(3)), of(make([]api.Tree, 1000)...),
		at(1, pair), at(3, pair), at(-1, pair), at(4, pair), at(most, pair), at(least, pair), at(3, of(pair, leaf(2))), at(1, of(leaf(2), pair)), at(2, of(pair, other)),
		of(at(1, pair), leaf(2)), of(leaf(2), at(2, pair)), of(pair, at(1, other)), of(of(at(3, pair), leaf(2)), leaf(3)),
		of(leaf(0), leaf(0)), of(leaf(3), leaf(3)), of(pair, leaf(0)), of(pair, leaf(1)), of(leaf(0), pair), of(pair, pair), of(pair, of(leaf(2), leaf(0))), of(of(pair, leaf(2)), leaf(1)), of(leaf(3), of(leaf(1), of(leaf(2), leaf(3)))),
		of(leaf(0), leaf(4)), of(leaf(-1), leaf(0)), of(pair, leaf(4)), of(of(leaf(0), leaf(4)), leaf(2)), of(leaf(4), other), of(of(leaf(5), leaf(6)), leaf(7)), of(pair, of(leaf(2), leaf(4))),
		of(of(leaf(0), leaf(1), leaf(2)), leaf(3)), of(of(leaf(0)), leaf(1)), of(leaf(1), of(leaf(0))), of(leaf(3), of(leaf(0), leaf(1), leaf(2))), of(of(of(leaf(0)), leaf(1)), leaf(2)),
		of(of(pair, other), leaf(0)), of(of(pair, other), leaf(4)), of(of(of(pair, leaf(2)), leaf(3)), leaf(4)),
		chain(5, false), chain(5, true), chain(100, false), chain(100, true), chain(1<<16, false), chain(1<<16, true),
		ring(0), ring(1), fork(1), fork(2), fork(3),
	}
	for _, t := range slices.Clone(l) {
		l = append(l, of(t, leaf(3)), of(leaf(3), t), of(of(leaf(2), t), leaf(3)), of(of(t, leaf(2)), leaf(3)))
	}
	return l
}

// tellsText holds what a rule told against a text: an empty one, if it is to tell nothing.
func tellsText(t *testing.T, call, s, want string, got api.Tree, ok bool) {
	t.Helper()
	if want == "" && (ok || !isZero(got)) {
		t.Errorf("%s of %s: %v, %v, not a zero one and false", call, s, got, ok)
	}
	if want != "" && (!ok || tree.Text(got) != want) {
		t.Errorf("%s of %s: %s, %v, not %s", call, s, tree.Text(got), ok, want)
	}
}

// P8.1
func TestTurn(t *testing.T) {
	for _, x := range []struct{ s, want string }{
		{"0", ""}, {"1", ""}, {"2", ""}, {"3", ""},
		{"(01)", "(10)"}, {"(10)", "(01)"}, {"(32)", "(23)"}, {"(03)", "(30)"},
		{"((01)2)", "(2(01))"}, {"(2(01))", "((01)2)"}, {"(0(12))", "((12)0)"}, {"((31)0)", "(0(31))"},
		{"((01)(23))", "((23)(01))"}, {"((32)(10))", "((10)(32))"}, {"(((01)2)3)", "(3((01)2))"}, {"((0(12))3)", "(3(0(12)))"}, {"(0(1(23)))", "((1(23))0)"}, {"(3((02)1))", "(((02)1)3)"},
	} {
		got, ok := rule.Turn(read(t, x.s))
		tellsText(t, "Turn", x.s, x.want, got, ok)
	}
}

// P8.1
func TestMove(t *testing.T) {
	for _, x := range []struct{ s, want string }{
		{"0", ""}, {"1", ""}, {"2", ""}, {"3", ""},
		{"(01)", ""}, {"(32)", ""}, {"(0(12))", ""}, {"(3(10))", ""}, {"(0(1(23)))", ""}, {"(0((12)3))", ""}, {"(3((01)2))", ""},
		{"((01)2)", "(0(12))"}, {"((20)1)", "(2(01))"}, {"((32)1)", "(3(21))"},
		{"((01)(23))", "(0(1(23)))"}, {"((32)(10))", "(3(2(10)))"},
		{"(((01)2)3)", "((01)(23))"}, {"((0(12))3)", "(0((12)3))"}, {"(((32)1)0)", "((32)(10))"}, {"((3(21))0)", "(3((21)0))"},
	} {
		got, ok := rule.Move(read(t, x.s))
		tellsText(t, "Move", x.s, x.want, got, ok)
	}
}

// P8.2: also the document's example.
func TestNext(t *testing.T) {
	for _, x := range []struct{ s, want string }{
		{"0", ""}, {"1", ""}, {"2", ""}, {"3", ""},
		{"(01)", "(10)"}, {"(32)", "(23)"},
		{"((01)2)", "(2(01)) (0(12)) ((10)2)"}, {"(2(01))", "((01)2) (2(10))"}, {"(0(12))", "((12)0) (0(21))"}, {"((31)0)", "(0(31)) (3(10)) ((13)0)"},
		{"((01)(23))", "((23)(01)) (0(1(23))) ((10)(23)) ((01)(32))"}, {"((32)(10))", "((10)(32)) (3(2(10))) ((23)(10)) ((32)(01))"},
		{"(((01)2)3)", "(3((01)2)) ((01)(23)) ((2(01))3) ((0(12))3) (((10)2)3)"},
		{"((0(12))3)", "(3(0(12))) (0((12)3)) (((12)0)3) ((0(21))3)"},
		{"(3((01)2))", "(((01)2)3) (3(2(01))) (3(0(12))) (3((10)2))"},
		{"(0(1(23)))", "((1(23))0) (0((23)1)) (0(1(32)))"},
	} {
		if got := texts(rule.Next(read(t, x.s))); got != x.want {
			t.Errorf("%s: %s, not %s", x.s, got, x.want)
		}
	}
}

// P8.3: worked out by hand, tree by tree; of four occurrences only what comes of the first ones.
func TestClose(t *testing.T) {
	for _, x := range []struct {
		s    string
		many int
		want string
	}{
		{"0", 1, "0"}, {"1", 1, "1"}, {"2", 1, "2"}, {"3", 1, "3"},
		{"(01)", 2, "(01) (10)"}, {"(10)", 2, "(10) (01)"}, {"(32)", 2, "(32) (23)"}, {"(03)", 2, "(03) (30)"},
		{"((01)2)", 12, "((01)2) (2(01)) (0(12)) ((10)2) (2(10)) ((12)0) (0(21)) (1(02)) (1(20)) ((21)0) ((02)1) ((20)1)"},
		{"(0(12))", 12, "(0(12)) ((12)0) (0(21)) (1(20)) ((21)0) ((20)1) (1(02)) (2(10)) (2(01)) ((02)1) ((10)2) ((01)2)"},
		{"(1(30))", 12, "(1(30)) ((30)1) (1(03)) (3(01)) ((03)1) ((01)3) (3(10)) (0(31)) (0(13)) ((10)3) ((31)0) ((13)0)"},
		{"(((01)2)3)", 120, "(((01)2)3) (3((01)2)) ((01)(23)) ((2(01))3) ((0(12))3) (((10)2)3) (3(2(01))) (3(0(12))) (3((10)2)) ((23)(01)) (0(1(23))) ((10)(23)) ((01)(32))"},
		{"((01)(23))", 120, "((01)(23)) ((23)(01)) (0(1(23))) ((10)(23)) ((01)(32)) (2(3(01))) ((32)(01)) ((23)(10)) ((1(23))0) (0((23)1)) (0(1(32)))"},
	} {
		l := rule.Close(read(t, x.s))
		if got := texts(l); len(l) != x.many || !strings.HasPrefix(got+" ", x.want+" ") {
			t.Errorf("%s: %d, %s, not %d, %s", x.s, len(l), got, x.many, x.want)
		}
	}
}

// P8.1, P8.2, P8.3, R4: nothing comes of what may not be.
func TestOfWhatMayNotBe(t *testing.T) {
	for i, x := range wrong() {
		if got, ok := rule.Turn(x); ok || !isZero(got) {
			t.Errorf("%d: Turn is %v, %v", i, got, ok)
		}
		if got, ok := rule.Move(x); ok || !isZero(got) {
			t.Errorf("%d: Move is %v, %v", i, got, ok)
		}
		if got := rule.Next(x); len(got) != 0 {
			t.Errorf("%d: Next is %v", i, got)
		}
		if got := rule.Close(x); len(got) != 0 {
			t.Errorf("%d: Close is %v", i, got)
		}
	}
}

// R6: an occurrence without trees is one, whether its list is nil or empty; the zero one is that of 0.
func TestOfEmptyLists(t *testing.T) {
	empty := func(occ int) api.Tree { return api.Tree{Occ: occ, L: []api.Tree{}} }
	for _, x := range []struct {
		t           api.Tree
		turn, move  string
		next, close string
	}{
		{api.Tree{}, "", "", "", "0"}, {empty(2), "", "", "", "2"},
		{of(empty(1), leaf(2)), "(21)", "", "(21)", "(12) (21)"}, {of(empty(3), empty(0)), "(03)", "", "(03)", "(30) (03)"},
		{of(of(empty(2), leaf(1)), empty(0)), "(0(21))", "(2(10))", "(0(21)) (2(10)) ((12)0)", texts(rule.Close(read(t, "((21)0)")))},
	} {
		s := tree.Text(x.t)
		turned, ok := rule.Turn(x.t)
		tellsText(t, "Turn", s, x.turn, turned, ok)
		moved, ok := rule.Move(x.t)
		tellsText(t, "Move", s, x.move, moved, ok)
		if next, all := texts(rule.Next(x.t)), texts(rule.Close(x.t)); next != x.next || all != x.close {
			t.Errorf("%s: %s; %s", s, next, all)
		}
	}
}
