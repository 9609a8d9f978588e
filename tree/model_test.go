package tree_test

import (
	"reflect"
	"slices"
	"strings"
	"testing"

	"roadbook/api"
	"roadbook/tree"
)

// eachList hands on all lists of long of some.
func eachList[T any](some []T, long int, do func(l []T)) {
	if long == 0 {
		do(nil)
		return
	}
	eachList(some, long-1, func(l []T) {
		for _, x := range some {
			do(append(slices.Clip(l), x))
		}
	})
}

// shapes are all trees whose occurrences are these, from the left to the right.
func shapes(occs []int) []api.Tree {
	if len(occs) == 1 {
		return []api.Tree{leaf(occs[0])}
	}
	var l []api.Tree
	for i := 1; i < len(occs); i++ {
		for _, a := range shapes(occs[:i]) {
			for _, b := range shapes(occs[i:]) {
				l = append(l, of(a, b))
			}
		}
	}
	return l
}

// read is what the words say of t: its occurrences, from the left to the right, its text, and whether it may be.
func read(t api.Tree) (occs []int, text string, may bool) {
	if len(t.L) == 0 {
		if t.Occ < 0 || t.Occ > 3 {
			return nil, "", false
		}
		return []int{t.Occ}, "0123"[t.Occ : t.Occ+1], true
	}
	if len(t.L) != 2 || t.Occ != 0 {
		return nil, "", false
	}
	a, s, ok := read(t.L[0])
	b, u, fine := read(t.L[1])
	occs = append(a, b...)
	sorted := slices.Sorted(slices.Values(occs))
	return occs, "(" + s + u + ")", ok && fine && len(slices.Compact(sorted)) == len(occs)
}

// agree holds what is told of t against what the words say.
func agree(t *testing.T, x api.Tree) {
	t.Helper()
	occs, text, may := read(x)
	set := 0
	for _, occ := range occs {
		set |= 1 << occ
	}
	if !may {
		set, text = 0, ""
	}
	if tree.May(x) != may || tree.Set(x) != set || tree.Text(x) != text {
		t.Fatalf("%v: %v, %d, %q, not %v, %d, %q", x, tree.May(x), tree.Set(x), tree.Text(x), may, set, text)
	}
	if got, ok := tree.Read(text); ok != may || may && !reflect.DeepEqual(got, x) {
		t.Fatalf("%s: %v, %v", text, got, ok)
	}
}

// P6.1, P6.2: all trees of at most five occurrences, also of such as are none, or are there twice.
func TestMayOfShapesByModel(t *testing.T) {
	for long := 1; long <= 5; long++ {
		eachList([]int{0, 1, 2, 3, 4}, long, func(occs []int) {
			for _, x := range shapes(occs) {
				agree(t, x)
			}
		})
	}
}

// P6.1, P6.2: all trees of some that have from one to three trees, and numbers of their own.
func TestMayOfPartsByModel(t *testing.T) {
	some := []api.Tree{leaf(-1), leaf(0), leaf(1), leaf(3), leaf(4)}
	for _, x := range some {
		agree(t, x)
	}
	parts := slices.Clone(some)
	for long := 1; long <= 3; long++ {
		eachList(some, long, func(l []api.Tree) {
			for _, occ := range []int{-1, 0, 2} {
				agree(t, api.Tree{Occ: occ, L: l})
				parts = append(parts, api.Tree{Occ: occ, L: l})
			}
		})
	}
	for long := 1; long <= 2; long++ {
		eachList(parts, long, func(l []api.Tree) {
			agree(t, of(l...))
			if long == 2 {
				agree(t, of(leaf(2), l[0]))
			}
		})
	}
}

// P6.1: any two of some trees are the same just if Go's library finds them so.
func TestSameByModel(t *testing.T) {
	var l []api.Tree
	for long := 1; long <= 3; long++ {
		eachList([]int{0, 1, 4}, long, func(occs []int) {
			l = append(l, shapes(occs)...)
			var leaves []api.Tree
			for _, occ := range occs {
				leaves = append(leaves, leaf(occ))
			}
			for _, occ := range []int{-1, 0, 1} {
				l = append(l, api.Tree{Occ: occ, L: leaves}, of(api.Tree{Occ: occ, L: leaves}))
			}
		})
	}
	for i, a := range l {
		for j, b := range l {
			if got, want := tree.Same(a, copied(b)), reflect.DeepEqual(a, b); got != want {
				t.Fatalf("%d, %d: %v and %v: %v", i, j, a, b, got)
			}
		}
	}
}

// everyTree are all trees that may be, by their texts.
func everyTree() map[string]api.Tree {
	m := map[string]api.Tree{}
	for long := 1; long <= 4; long++ {
		eachList([]int{0, 1, 2, 3}, long, func(occs []int) {
			for _, x := range shapes(occs) {
				if _, text, may := read(x); may {
					m[text] = x
				}
			}
		})
	}
	return m
}

// readsLike holds what is read of s against all trees that may be.
func readsLike(t *testing.T, every map[string]api.Tree, s string) {
	t.Helper()
	want, there := every[s]
	got, ok := tree.Read(s)
	if ok != there || !reflect.DeepEqual(got, want) {
		t.Fatalf("%q: %v, %v", s, got, ok)
	}
}

// P6.2: all texts of at most seven of some signs.
func TestReadByModel(t *testing.T) {
	every := everyTree()
	if len(every) != 184 {
		t.Fatalf("there are %d trees", len(every))
	}
	for long := range 8 {
		eachList([]byte("()0124"), long, func(l []byte) { readsLike(t, every, string(l)) })
	}
}

// P6.2: the text of each tree, and each one that is nearly so: a sign less, more, another one, or two turned, anywhere in it.
func TestReadNearlyByModel(t *testing.T) {
	every := everyTree()
	signs := []string{"(", ")", "0", "1", "2", "3", "4", "/", " ", "\x00", "\xff", "é", "０"}
	for s := range every {
		readsLike(t, every, s)
		readsLike(t, every, s+s)
		for i := range len(s) + 1 {
			for _, sign := range signs {
				readsLike(t, every, s[:i]+sign+s[i:])
			}
			if i == len(s) {
				break
			}
			readsLike(t, every, s[:i])
			readsLike(t, every, s[i:])
			readsLike(t, every, s[:i]+s[i+1:])
			for _, sign := range signs {
				readsLike(t, every, s[:i]+sign+s[i+1:])
			}
			for j := range i {
				l := []byte(s)
				l[i], l[j] = l[j], l[i]
				readsLike(t, every, string(l))
			}
		}
	}
}

// before tells which of two trees of one set is ahead: by the sets of their first trees, then by these, and then by their second ones.
func before(a, b api.Tree) int {
	if len(a.L) == 0 {
		return 0
	}
	set := func(t api.Tree) (n int) {
		occs, _, _ := read(t)
		for _, occ := range occs {
			n += []int{1, 2, 4, 8}[occ]
		}
		return n
	}
	if n := set(a.L[0]) - set(b.L[0]); n != 0 {
		return n
	}
	if n := before(a.L[0], b.L[0]); n != 0 {
		return n
	}
	return before(a.L[1], b.L[1])
}

// P6.3, P6.4: of each set all trees that may be, each once, in that order.
func TestAllByModel(t *testing.T) {
	for set := range 16 {
		var want []api.Tree
		for _, x := range everyTree() {
			occs, _, _ := read(x)
			n := 0
			for _, occ := range occs {
				n |= 1 << occ
			}
			if n == set {
				want = append(want, x)
			}
		}
		slices.SortFunc(want, before)
		if got := tree.All(set); !slices.EqualFunc(got, want, tree.Same) {
			t.Errorf("%d: %s, not %s", set, texts(got), texts(want))
		}
	}
}

// copied is t in memory of its own.
func copied(t api.Tree) api.Tree {
	var l []api.Tree
	for _, p := range t.L {
		l = append(l, copied(p))
	}
	t.L = l
	return t
}

// spoil changes all parts of t, and what stands behind them.
func spoil(t *api.Tree) {
	for i := range t.L {
		spoil(&t.L[i])
	}
	t.Occ += 7
	_ = append(t.L, leaf(77))
}

// R3: Join keeps nothing of what it was of, and changes nothing of it.
func TestJoinIsItsOwn(t *testing.T) {
	for i, a := range right() {
		for j, b := range append(right(), right()[i]) {
			x, y := copied(a.t), copied(b.t)
			got := tree.Join(x, y)
			if !tree.Same(x, a.t) || !tree.Same(y, b.t) {
				t.Fatalf("%d, %d: they are changed: %v and %v", i, j, x, y)
			}
			spoil(&x)
			spoil(&y)
			if !tree.Same(got, of(a.t, b.t)) {
				t.Fatalf("%d, %d: it changed with what it is of: %v", i, j, got)
			}
			x = copied(a.t)
			got = tree.Join(x, x)
			spoil(&got.L[0])
			if !tree.Same(x, a.t) || !tree.Same(got.L[1], a.t) {
				t.Fatalf("%d: it shares what it is of twice", i)
			}
			spoil(&got)
			if !tree.Same(x, a.t) {
				t.Fatalf("%d: what it is of changed with it", i)
			}
		}
	}
}

// R3, R5: what is answered is the caller's own, also each tree of an answer, and the same the next time.
func TestAnswersAreTheirOwn(t *testing.T) {
	for set := range 16 {
		l := tree.All(set)
		was := texts(l)
		for i := range l {
			spoil(&l[i])
			if rest := texts(l[i+1:]); !strings.HasSuffix(was, rest) {
				t.Fatalf("%d: with %d others are changed: %s", set, i, rest)
			}
		}
		if again := texts(tree.All(set)); again != was {
			t.Errorf("%d: %s, and then %s", set, was, again)
		}
	}
	for s, want := range everyTree() {
		x, _ := tree.Read(s)
		spoil(&x)
		if again, ok := tree.Read(s); !ok || !tree.Same(again, want) {
			t.Errorf("%s: %v", s, again)
		}
	}
	for n := range 5 {
		x := tree.First(n)
		was := copied(x)
		spoil(&x)
		if !tree.Same(tree.First(n), was) {
			t.Errorf("First of %d is changed", n)
		}
	}
}

// R3: what is asked changes nothing.
func TestStays(t *testing.T) {
	for i, x := range append(wrong()[:30], of(leaf(1), of(leaf(0), leaf(2)))) {
		was := copied(x)
		tree.May(x)
		tree.Set(x)
		tree.Text(x)
		tree.Same(x, x)
		tree.Join(x, x)
		if !reflect.DeepEqual(copied(x), was) {
			t.Errorf("%d is changed", i)
		}
	}
}

// P1, R1: every call comes back, whatever it is of, also of what is nested in itself, or has more parts than can be counted.
func TestAnyArguments(t *testing.T) {
	many := leaf(0)
	for range 200 { // twice as many parts with each
		many = of(many, many)
	}
	wide := ring(0)
	wide.L = append(wide.L, make([]api.Tree, 1<<20)...)
	wide.L[0] = wide
	for i, x := range []api.Tree{ring(0), ring(1), fork(1), fork(2), fork(3), many, wide, chain(1<<18, false), chain(1<<18, true), of(leaf(1), ring(0)), of(many, ring(1))} {
		if tree.May(x) || tree.Set(x) != 0 || tree.Text(x) != "" {
			t.Errorf("%d may be", i)
		}
		for j, y := range []api.Tree{leaf(0), chain(5, false), of(leaf(0), leaf(1))} {
			if tree.Same(x, y) || tree.Same(y, x) {
				t.Errorf("%d is the same as %d", i, j)
			}
			if tree.May(tree.Join(x, y)) || tree.May(tree.Join(y, x)) {
				t.Errorf("%d, joined with %d, may be", i, j)
			}
		}
	}
	for i, x := range []api.Tree{ring(0), ring(1), fork(1), fork(2), fork(3), wide} {
		tree.Same(x, x)
		if tree.May(tree.Join(x, x)) {
			t.Errorf("%d, joined with itself, may be", i)
		}
	}
}
