package plan

import (
	"math"
	"slices"

	"roadbook/api"
	"roadbook/card"
	"roadbook/cost"
	"roadbook/query"
	"roadbook/tree"
)

// none stands where no column is meant.
const none = -1

// Nothing is promised of what is given with more parts, or as many that are nested in one another: so Same ends there, even with one that has itself for a plan.
const (
	mostParts  = math.MaxInt32
	mostNested = 1 << 17
)

// form is how parts of one Op are made: of how many plans, by how many numbers of their pair, and what they cost by how many rows, of one table or set, or of two.
type form struct {
	plans, numbers int
	ofOne          func(rows int) int
	ofTwo          func(a, b int) int
}

// forms are those of all Ops.
func forms() [api.Makes]form {
	return [api.Makes]form{
		api.Scan:  {ofOne: cost.Scan},
		api.Nest:  {plans: 2, ofTwo: cost.Nest},
		api.Hash:  {plans: 2, numbers: 2, ofTwo: cost.Hash},
		api.Merge: {plans: 2, numbers: 2, ofTwo: cost.Merge},
		api.Sort:  {plans: 1, numbers: 1, ofOne: cost.Sort},
	}
}

// hasForm tells whether p itself, but for its plans, has the form of its Op.
func hasForm(p api.Plan) bool {
	if p.Op < 0 || p.Op >= api.Makes || p.Op != api.Scan && p.Occ != 0 {
		return false
	}
	f := forms()[p.Op]
	for _, n := range p.Pair[f.numbers:] {
		if n != 0 {
			return false
		}
	}
	return len(p.L) == f.plans
}

// orderOf is the Order of p, which has its form.
func orderOf(p api.Plan) int {
	switch p.Op {
	case api.Sort, api.Merge:
		return p.Pair[0]
	case api.Nest:
		return orderOf(p.L[0])
	}
	return none
}

// reading is a plan that is read: with its tree, and its plans, which are read too.
type reading struct {
	api.Plan
	tree  api.Tree
	plans []reading
}

// set is that of all occurrences of r.
func (r reading) set() int { return tree.Set(r.tree) }

// readAll reads p, if it has its form, and its tree may be.
func readAll(p api.Plan) (reading, bool) {
	if !Few(p) {
		return reading{}, false
	}
	r := read(p)
	if !tree.May(r.tree) {
		return reading{}, false
	}
	return r, true
}

// read reads p, which has its form.
func read(p api.Plan) reading {
	r := reading{Plan: p}
	for _, part := range p.L {
		r.plans = append(r.plans, read(part))
	}
	switch len(r.plans) {
	case 0:
		r.tree = tree.Leaf(r.Occ)
	case 1:
		r.tree = r.plans[0].tree
	default:
		r.tree = tree.Join(r.plans[0].tree, r.plans[1].tree)
	}
	return r
}

// every is the set of all occurrences of q, which may be.
func every(q api.Query) int { return 1<<len(q.Occ) - 1 }

// mayBe tells whether q may be, and r is a plan of it.
func mayBe(c api.Cat, q api.Query, r reading) bool {
	return query.May(c, q) && r.set()&^every(q) == 0 && partsMay(c, q, r)
}

// partsMay tells whether all parts of r may be, of a q that may be, and has its occurrences.
func partsMay(c api.Cat, q api.Query, r reading) bool {
	for _, part := range r.plans {
		if !partsMay(c, q, part) {
			return false
		}
	}
	switch r.Op {
	case api.Sort:
		return slices.Contains(query.Cols(c, q, r.set()), r.Pair[0])
	case api.Hash:
		return byPair(q, r)
	case api.Merge:
		return byPair(q, r) && orderOf(r.plans[0].Plan) == r.Pair[0] && orderOf(r.plans[1].Plan) == r.Pair[1]
	}
	return true
}

// byPair tells whether the pair of r, which is of two plans, is one of these.
func byPair(q api.Query, r reading) bool {
	return slices.Contains(query.Pairs(q, r.plans[0].set(), r.plans[1].set()), r.Pair)
}

// costOf is what all parts of r, which may be, cost together.
func costOf(c api.Cat, q api.Query, r reading) int {
	sum := itself(c, q, r)
	for _, part := range r.plans {
		sum = cost.Add(sum, costOf(c, q, part))
	}
	return sum
}

// itself is what r costs without its plans.
func itself(c api.Cat, q api.Query, r reading) int {
	f := forms()[r.Op]
	switch f.plans {
	case 0:
		return f.ofOne(card.Base(c, q, r.Occ))
	case 1:
		return f.ofOne(card.Rows(c, q, r.set()))
	}
	return f.ofTwo(card.Rows(c, q, r.plans[0].set()), card.Rows(c, q, r.plans[1].set()))
}

// endFits tells whether w, whose plan may be, ends as q asks for, in order.
func endFits(q api.Query, w api.Whole) bool {
	if w.End < 0 || w.End >= api.Ends || (w.End == api.Told) != (q.By == none) {
		return false
	}
	switch {
	case w.Sort:
		return q.Ord != none && w.End == api.Hashed
	case w.End == api.Ordered:
		// Groups come in the order of the rows, and there is no Ord but By.
		return orderOf(w.P) == q.By
	case q.Ord == none:
		return true
	}
	return w.End == api.Told && orderOf(w.P) == q.Ord
}
