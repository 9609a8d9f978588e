package rule_test

import (
	"reflect"
	"slices"
	"strings"
	"testing"

	"roadbook/api"
	"roadbook/rule"
	"roadbook/tree"
)

// everyTree are all trees that may be.
func everyTree() []api.Tree {
	var l []api.Tree
	for set := range 16 {
		l = append(l, tree.All(set)...)
	}
	return l
}

// parts are the texts of the two trees of one: false, if it has none.
func parts(s string) (a, b string, ok bool) {
	if len(s) < 2 {
		return "", "", false
	}
	in := s[1 : len(s)-1]
	open := 0
	for i, sign := range in {
		switch sign {
		case '(':
			open++
		case ')':
			open--
		}
		if open == 0 {
			return in[:i+1], in[i+1:], true
		}
	}
	return "", "", false
}

// turned and moved are what the words say of texts: an empty one, if there is none.
func turned(s string) string {
	a, b, ok := parts(s)
	if !ok {
		return ""
	}
	return "(" + b + a + ")"
}

func moved(s string) string {
	first, c, _ := parts(s)
	a, b, ok := parts(first)
	if !ok {
		return ""
	}
	return "(" + a + "(" + b + c + "))"
}

// nexts are what the words say of a text.
func nexts(s string) []string {
	l := slices.DeleteFunc([]string{turned(s), moved(s)}, func(s string) bool { return s == "" })
	a, b, _ := parts(s)
	if a == "" {
		return l
	}
	for _, n := range nexts(a) {
		l = append(l, "("+n+b+")")
	}
	for _, n := range nexts(b) {
		l = append(l, "("+a+n+")")
	}
	return l
}

// closed is what the words say of a text: what there is is gone through once, and what is new put behind it.
func closed(s string) []string {
	l, todo := []string{s}, []string{s}
	for len(todo) > 0 {
		for _, n := range nexts(todo[0]) {
			if !slices.Contains(l, n) {
				l, todo = append(l, n), append(todo, n)
			}
		}
		todo = todo[1:]
	}
	return l
}

// P8.1, P8.2, P8.3: of each tree that may be, what the words say of its text.
func TestByModel(t *testing.T) {
	every := everyTree()
	if len(every) != 184 {
		t.Fatalf("there are %d trees", len(every))
	}
	for _, x := range every {
		s := tree.Text(x)
		turn, ok := rule.Turn(x)
		tellsText(t, "Turn", s, turned(s), turn, ok)
		move, ok := rule.Move(x)
		tellsText(t, "Move", s, moved(s), move, ok)
		if got, want := texts(rule.Next(x)), strings.Join(nexts(s), " "); got != want {
			t.Errorf("Next of %s: %s, not %s", s, got, want)
		}
		if got, want := texts(rule.Close(x)), strings.Join(closed(s), " "); got != want {
			t.Errorf("Close of %s: %s, not %s", s, got, want)
		}
	}
}

// P8.4: from each tree all of its set come, each once, and no other one.
func TestCloseIsAll(t *testing.T) {
	for _, x := range everyTree() {
		s, set := tree.Text(x), tree.Set(x)
		l, all := rule.Close(x), tree.All(set)
		if len(l) != len(all) {
			t.Errorf("%s: %d, not %d", s, len(l), len(all))
		}
		for i, a := range l {
			if !tree.May(a) || tree.Set(a) != set {
				t.Errorf("%s: %d, %s, has the set %d, not %d", s, i, tree.Text(a), tree.Set(a), set)
			}
			if slices.ContainsFunc(l[:i], func(b api.Tree) bool { return tree.Same(a, b) }) {
				t.Errorf("%s: %d, %s, is there twice", s, i, tree.Text(a))
			}
		}
		for _, a := range all {
			if !slices.ContainsFunc(l, func(b api.Tree) bool { return tree.Same(a, b) }) {
				t.Errorf("%s: %s does not come", s, tree.Text(a))
			}
		}
	}
}

// P8.1, P8.2: what one rule makes has the same set, and what is turned twice is as it was.
func TestRulesKeepTheSet(t *testing.T) {
	for _, x := range everyTree() {
		for _, n := range rule.Next(x) {
			if tree.Set(n) != tree.Set(x) || tree.Same(n, x) {
				t.Errorf("%s: %s", tree.Text(x), tree.Text(n))
			}
		}
		if once, ok := rule.Turn(x); ok {
			if twice, ok := rule.Turn(once); !ok || !tree.Same(twice, x) {
				t.Errorf("%s: turned twice it is %s", tree.Text(x), tree.Text(twice))
			}
		}
	}
}

// copied is t in memory of its own, with room behind each of its lists, as a caller's may have.
func copied(t api.Tree) api.Tree {
	l := make([]api.Tree, 0, len(t.L)+2)
	for _, p := range t.L {
		l = append(l, copied(p))
	}
	t.L = l
	return t
}

// full is t in memory of its own, with all that stands behind its lists.
func full(t api.Tree) api.Tree {
	var l []api.Tree
	for _, p := range t.L[:cap(t.L)] {
		l = append(l, full(p))
	}
	t.L = l
	return t
}

// spoil changes all parts of t, and what stands behind them.
func spoil(t *api.Tree) {
	for i := range t.L {
		spoil(&t.L[i])
	}
	t.Occ += 7
	behind := t.L[len(t.L):cap(t.L)]
	for i := range behind {
		behind[i] = leaf(77)
	}
}

// asked are all trees that the calls tell of x, one list a call.
func asked(x api.Tree) [][]api.Tree {
	turn, _ := rule.Turn(x)
	move, _ := rule.Move(x)
	return [][]api.Tree{{turn}, {move}, rule.Next(x), rule.Close(x)}
}

// R3: of what is told no tree changes with another one, nor with what it was of; and that does not change with them.
func TestAnswersAreTheirOwn(t *testing.T) {
	for _, x := range everyTree() {
		given := copied(x)
		was := full(given)
		lists := asked(given)
		if !reflect.DeepEqual(full(given), was) {
			t.Fatalf("%s is changed", tree.Text(x))
		}
		for call, l := range lists {
			for i := range l {
				rest := texts(l[i+1:])
				spoil(&l[i])
				if texts(l[i+1:]) != rest {
					t.Fatalf("%s, call %d: others changed with tree %d", tree.Text(x), call, i)
				}
				if !reflect.DeepEqual(full(given), was) {
					t.Fatalf("%s, call %d: it changed with tree %d", tree.Text(x), call, i)
				}
			}
		}
		lists = asked(given)
		spoil(&given)
		for call, l := range asked(x) {
			if texts(lists[call]) != texts(l) {
				t.Errorf("%s, call %d: what was told changed with what it was of", tree.Text(x), call)
			}
		}
	}
}

// R3: what may not be is not changed either.
func TestStays(t *testing.T) {
	for i, x := range wrong() {
		if tree.Same(x, x) { // not one that has itself for a part
			was := copied(x)
			asked(x)
			if !tree.Same(x, was) {
				t.Errorf("%d is changed", i)
			}
		}
	}
}

// R5: what is told hangs on nothing that was asked before.
func TestAlwaysTheSame(t *testing.T) {
	every := everyTree()
	var first [][][]api.Tree
	for _, x := range every {
		first = append(first, asked(x))
	}
	slices.Reverse(every)
	for i, x := range every {
		if was := first[len(every)-1-i]; !reflect.DeepEqual(asked(x), was) {
			t.Errorf("%s: %v, not %v", tree.Text(x), asked(x), was)
		}
	}
}

// P1, R1: every call comes back, also of what has more parts than can be counted, or is deeper than anything that may be.
func TestAnyArguments(t *testing.T) {
	many := leaf(0)
	for range 200 { // twice as many parts with each
		many = of(many, many)
	}
	wide := ring(0)
	wide.L = append(wide.L, make([]api.Tree, 1<<20)...)
	wide.L[0] = wide
	for i, x := range []api.Tree{many, wide, chain(1<<18, false), chain(1<<18, true), of(of(leaf(0), ring(1)), leaf(2)), of(many, ring(1)), of(of(leaf(0), leaf(1)), many)} {
		for call, l := range asked(x) {
			if call < 2 && !isZero(l[0]) || call >= 2 && len(l) > 0 {
				t.Errorf("%d, call %d: %d trees", i, call, len(l))
			}
		}
	}
}
