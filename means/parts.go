package means

import (
	"roadbook/api"
	"roadbook/bag"
	"roadbook/data"
	"roadbook/query"
	"roadbook/tree"
)

// none stands where no column is meant.
const none = -1

// mayNot is what goes up from where something is met that may not be.
const mayNot = "it may not be"

// orZero is what is told, and true: a zero one and false, if something was met that may not be.
func orZero(tell func() api.Bag) (b api.Bag, ok bool) {
	defer func() {
		// Whatever went up ends here: no call may panic.
		if recover() != nil {
			b, ok = api.Bag{}, false
		}
	}()
	return tell(), true
}

// hold goes on only where something may be.
func hold(may bool) {
	if !may {
		panic(mayNot)
	}
}

// must is the bag that was answered, where one was.
func must(b api.Bag, ok bool) api.Bag {
	hold(ok)
	return b
}

// asks tells whether q may be, and the rows fit the tables that it asks.
func asks(c api.Cat, d api.Data, q api.Query) bool { return query.May(c, q) && data.Fits(c, d) }

// isOf tells whether t may be, and has only occurrences of q.
func isOf(q api.Query, t api.Tree) bool { return tree.May(t) && tree.Set(t) < 1<<len(q.Occ) }

// teller tells what a tree tells that may be, and is of q.
func teller(c api.Cat, d api.Data, q api.Query) func(t api.Tree) api.Bag {
	var tell func(t api.Tree) api.Bag
	tell = func(t api.Tree) api.Bag {
		if len(t.L) == 0 {
			return bag.Keep(occurrence(c, d, q, t.Occ), at(q, query.Own(q, tree.Set(t))))
		}
		first, second := t.L[0], t.L[1]
		both := must(bag.Cross(tell(first), tell(second)))
		return bag.Keep(both, at(q, query.New(q, tree.Set(first), tree.Set(second))))
	}
	return tell
}

// crossed are the bags of all occurrences of q, crossed in order.
func crossed(c api.Cat, d api.Data, q api.Query) api.Bag {
	b := occurrence(c, d, q, 0)
	for occ := 1; occ < len(q.Occ); occ++ {
		b = must(bag.Cross(b, occurrence(c, d, q, occ)))
	}
	return b
}

// occurrence are the rows of one of q, all of them.
func occurrence(c api.Cat, d api.Data, q api.Query, occ int) api.Bag {
	return must(data.Of(c, d, q.Occ[occ], occ))
}

// at are the expressions of q at these places.
func at(q api.Query, places []int) []api.Expr {
	l := make([]api.Expr, len(places))
	for i, place := range places {
		l[i] = q.P[place]
	}
	return l
}
