package rule

import (
	"iter"

	"roadbook/api"
	"roadbook/tree"
)

// whole is a tree that may be: of it the rules make others, in memory of their own.
type whole api.Tree

// turned is t with its two trees the other way round, if it has any.
func (t whole) turned() (api.Tree, bool) {
	if len(t.L) == 0 {
		return api.Tree{}, false
	}
	return tree.Join(t.L[1], t.L[0]), true
}

// moved is, of ((ab)c), (a(bc)), if t is so.
func (t whole) moved() (api.Tree, bool) {
	if len(t.L) == 0 || len(t.L[0].L) == 0 {
		return api.Tree{}, false
	}
	a, b, c := t.L[0].L[0], t.L[0].L[1], t.L[1]
	return tree.Join(a, tree.Join(b, c)), true
}

// rules are all that make one tree of another one, in order.
func rules() [2]func(t whole) (api.Tree, bool) {
	return [2]func(t whole) (api.Tree, bool){whole.turned, whole.moved}
}

// by is what a rule makes of t, if it may be.
func by(rule func(t whole) (api.Tree, bool), t api.Tree) (api.Tree, bool) {
	if !tree.May(t) {
		return api.Tree{}, false
	}
	return rule(whole(t))
}

// next hands on the trees that one rule makes of t, which may be, and then of its first tree, and of its second one, in their places.
func next(t api.Tree) iter.Seq[api.Tree] {
	return func(yield func(api.Tree) bool) {
		for _, rule := range rules() {
			if n, ok := rule(whole(t)); ok && !yield(n) {
				return
			}
		}
		if len(t.L) == 0 {
			return
		}
		for n := range next(t.L[0]) {
			if !yield(tree.Join(n, t.L[1])) {
				return
			}
		}
		for n := range next(t.L[1]) {
			if !yield(tree.Join(t.L[0], n)) {
				return
			}
		}
	}
}

// copied is t, which may be, in memory of its own.
func copied(t api.Tree) api.Tree {
	if len(t.L) == 0 {
		return tree.Leaf(t.Occ)
	}
	return tree.Join(t.L[0], t.L[1])
}
