package tree

import (
	"math"
	"strconv"

	"roadbook/api"
)

// Nothing is promised of what is given with more parts, or as many that are nested in one another, nor of an answer of 2^31 bytes, of which each tree takes 32: so Same and Join end there, even with one that has itself for a part.
const (
	mostParts  = math.MaxInt32
	mostNested = 1 << 17
	mostCopied = 1 << 26
)

// What a text is written with.
const (
	begin = '('
	end   = ')'
	zero  = '0'
)

// longest is how many signs the text of a tree that may be has at most: a digit of each occurrence, and two brackets of all but one of them.
const longest = api.MaxOcc + 2*(api.MaxOcc-1)

// isOccurrence tells whether there may be an occurrence of that number.
func isOccurrence(occ int) bool { return occ >= 0 && occ < api.MaxOcc }

// setOf is the set of t, which is so deep: an empty one, if it may not be.
func setOf(t api.Tree, deep int) int {
	// What is deeper has more occurrences than there are. It is left at once, so that this ends even with one that has itself for a part.
	if deep > api.MaxOcc {
		return 0
	}
	if len(t.L) == 0 && isOccurrence(t.Occ) {
		return 1 << t.Occ
	}
	if len(t.L) != 2 || t.Occ != 0 {
		return 0
	}
	a, b := setOf(t.L[0], deep+1), setOf(t.L[1], deep+1)
	if a == 0 || b == 0 || a&b != 0 {
		return 0
	}
	return a | b
}

// alike tells whether all parts of both are the same, in order, and are at most most, and not too deep.
func alike(a, b api.Tree, most int) bool {
	left := most
	var all func(a, b api.Tree, deep int) bool
	all = func(a, b api.Tree, deep int) bool {
		left--
		if left < 0 || deep > mostNested || a.Occ != b.Occ || len(a.L) != len(b.L) {
			return false
		}
		for i, p := range a.L {
			if !all(p, b.L[i], deep+1) {
				return false
			}
		}
		return true
	}
	return all(a, b, 1)
}

// small tells whether t may be copied: nothing but its size keeps it from being like itself.
func small(t api.Tree) bool { return alike(t, t, mostCopied) }

// copied is t, which is small, in memory of its own.
func copied(t api.Tree) api.Tree {
	if len(t.L) == 0 {
		return Leaf(t.Occ)
	}
	l := make([]api.Tree, len(t.L))
	for i, p := range t.L {
		l[i] = copied(p)
	}
	return api.Tree{Occ: t.Occ, L: l}
}

// neverMay is a tree that may not be, as that of what is too large to be copied may not be either.
func neverMay() api.Tree { return api.Tree{L: []api.Tree{Leaf(0), Leaf(0)}} }

// written is the text of t, which may be.
func written(t api.Tree) string {
	if len(t.L) == 0 {
		return strconv.Itoa(t.Occ)
	}
	return string(begin) + written(t.L[0]) + written(t.L[1]) + string(end)
}

// joins are all trees of one of first and one of second, in order, the first ones first.
func joins(first, second []api.Tree) []api.Tree {
	var l []api.Tree
	for _, a := range first {
		for _, b := range second {
			l = append(l, Join(a, b))
		}
	}
	return l
}
