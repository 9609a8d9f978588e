package plan_test

import (
	"math/big"
	"reflect"
	"slices"
	"strconv"
	"testing"

	"roadbook/api"
	"roadbook/plan"
	"roadbook/query"
	"roadbook/tree"
)

// parts are those of p, itself first; of very many some.
func parts(p api.Plan) []api.Plan {
	l := []api.Plan{p}
	for i := 0; i < len(l) && len(l) < 100; i++ {
		l = append(l, l[i].L...)
	}
	return l
}

// hasForm is what the words say of a plan's form.
func hasForm(p api.Plan) bool {
	l := parts(p)
	for _, x := range l {
		plans, first, second := 2, x.Pair[0] == 0, x.Pair[1] == 0
		switch x.Op {
		case 0:
			plans = 0
		case 1:
			first = first && x.Occ == 0
		case 2, 3:
			first, second = x.Occ == 0, true
		case 4:
			plans, first = 1, x.Occ == 0
		default:
			return false
		}
		if len(x.L) != plans || !first || !second {
			return false
		}
	}
	return len(l) <= 20
}

// occs are those of all Scans of p, each as often as it is there.
func occs(p api.Plan) []int {
	var l []int
	for _, x := range parts(p) {
		if x.Op == 0 {
			l = append(l, x.Occ)
		}
	}
	slices.Sort(l)
	return l
}

// text is that of the tree of p, which has its form: nothing, if that may not be.
func text(p api.Plan) string {
	l := occs(p)
	if l[0] < 0 || l[len(l)-1] > 3 || len(slices.Compact(slices.Clone(l))) < len(l) {
		return ""
	}
	var of func(p api.Plan) string
	of = func(p api.Plan) string {
		switch len(p.L) {
		case 0:
			return strconv.Itoa(p.Occ)
		case 1:
			return of(p.L[0])
		}
		return "(" + of(p.L[0]) + of(p.L[1]) + ")"
	}
	return of(p)
}

// order is what the words say of the Order of a plan that has its form.
func order(p api.Plan) int {
	for p.Op == 1 {
		p = p.L[0]
	}
	if p.Op > 2 {
		return p.Pair[0]
	}
	return -1
}

// occsOf are the occurrences of the columns of e.
func occsOf(e api.Expr) []int {
	var l []int
	if e.Op == api.Col {
		l = append(l, e.Col/4)
	}
	for _, x := range e.L {
		l = append(l, occsOf(x)...)
	}
	return l
}

// within tells whether all of some are of others.
func within(some, others []int) bool {
	for _, x := range some {
		if !slices.Contains(others, x) {
			return false
		}
	}
	return true
}

// isPair tells whether e asks for two columns to be the same.
func isPair(e api.Expr) bool {
	return e.Op == api.Same && e.L[0].Op == api.Col && e.L[1].Op == api.Col && e.L[0].Col != e.L[1].Col
}

// goesBy tells whether the pair of p puts its two plans together.
func goesBy(q api.Query, p api.Plan) bool {
	a, b := occs(p.L[0]), occs(p.L[1])
	for _, e := range q.P {
		if !isPair(e) {
			continue
		}
		x, y := e.L[0].Col, e.L[1].Col
		if p.Pair != [2]int{x, y} && p.Pair != [2]int{y, x} {
			continue
		}
		if slices.Contains(a, p.Pair[0]/4) && slices.Contains(b, p.Pair[1]/4) {
			return true
		}
	}
	return false
}

// sortsBy tells whether the column of p is one of its occurrences.
func sortsBy(c api.Cat, q api.Query, p api.Plan) bool {
	i := p.Pair[0]
	return i >= 0 && i <= 15 && slices.Contains(occs(p), i/4) && i%4 < c.T[q.Occ[i/4]].Cols
}

// mayBe is what the words say of a plan of a q that may be.
func mayBe(c api.Cat, q api.Query, p api.Plan) bool {
	if !hasForm(p) || text(p) == "" || slices.Max(occs(p)) >= len(q.Occ) {
		return false
	}
	for _, x := range parts(p) {
		fits := true
		switch x.Op {
		case 2:
			fits = goesBy(q, x)
		case 3:
			fits = goesBy(q, x) && order(x.L[0]) == x.Pair[0] && order(x.L[1]) == x.Pair[1]
		case 4:
			fits = sortsBy(c, q, x)
		}
		if !fits {
			return false
		}
	}
	return true
}

// rows is what the words say of how many rows these occurrences have.
func rows(c api.Cat, q api.Query, of []int) *big.Int {
	n := big.NewInt(1)
	for _, occ := range of {
		n.Mul(n, big.NewInt(int64(c.T[q.Occ[occ]].Rows)))
	}
	if limit := big.NewInt(1 << 40); n.Cmp(limit) > 0 {
		n = limit
	}
	by := int64(1)
	for _, e := range q.P {
		switch {
		case !within(occsOf(e), of):
		case isPair(e):
			by *= 10
		default:
			by *= 3
		}
	}
	if n.Div(n, big.NewInt(by)); n.Sign() == 0 {
		return big.NewInt(1)
	}
	return n
}

// sortCost is so many rows, each times all their bits.
func sortCost(n *big.Int) *big.Int { return new(big.Int).Mul(n, big.NewInt(int64(n.BitLen()))) }

// price is what the words say of what all parts of p cost, which may be, in numbers of any length.
func price(c api.Cat, q api.Query, p api.Plan) *big.Int {
	sum := new(big.Int)
	for _, x := range parts(p) {
		var l []*big.Int
		for _, y := range x.L {
			l = append(l, rows(c, q, occs(y)))
		}
		switch x.Op {
		case 0:
			sum.Add(sum, big.NewInt(int64(c.T[q.Occ[x.Occ]].Rows)))
		case 1:
			sum.Add(sum, l[0].Mul(l[0], l[1]))
		case 2:
			sum.Add(sum, l[0].Add(l[0], l[1].Add(l[1], l[1])))
		case 3:
			sum.Add(sum, l[0].Add(l[0], l[1]))
		case 4:
			sum.Add(sum, sortCost(l[0]))
		}
	}
	return sum
}

// held is a cost, as it is told.
func held(n *big.Int) int {
	if n.Cmp(big.NewInt(top)) > 0 {
		return top
	}
	return int(n.Int64())
}

// fine is what the words say of how q, which may be, is done, and what that costs.
func fine(c api.Cat, q api.Query, w api.Whole) (bool, int) {
	if !mayBe(c, q, w.P) || len(occs(w.P)) != len(q.Occ) {
		return false, top
	}
	ends := w.End >= 0 && w.End <= 2 && (w.End == 0) == (q.By == -1)
	sorts := !w.Sort || q.Ord != -1 && w.End == 1
	groups := w.End != 2 || order(w.P) == q.By
	inOrder := q.Ord == -1 || w.Sort || w.End == 2 || w.End == 0 && order(w.P) == q.Ord
	if !ends || !sorts || !groups || !inOrder {
		return false, top
	}
	sum, all := price(c, q, w.P), rows(c, q, occs(w.P))
	few := new(big.Int).Div(all, big.NewInt(5))
	if few.Sign() == 0 {
		few.SetInt64(1)
	}
	if w.End == 1 {
		sum.Add(sum, all).Add(sum, all)
	}
	if w.End == 2 {
		sum.Add(sum, all)
	}
	if w.Sort {
		sum.Add(sum, sortCost(few))
	}
	return true, held(sum)
}

// some are queries of up to four occurrences.
func some() []api.Query {
	three := told(-1, []int{1, 0, 2}, same(0, 4), same(9, 5), below(4, 8))
	return []api.Query{
		two(), told(0, []int{0, 1}, same(0, 4), same(4, 1)), groups(1, 1, told(-1, []int{0, 2}, same(1, 5), same(0, 4), below(0, 1))), groups(4, -1, told(-1, []int{0, 0}, below(0, 4))),
		told(-1, []int{2}, same(0, 1)), groups(0, 0, told(-1, []int{3})), three, groups(0, 0, three), told(5, three.Occ, three.P...), four(), groups(1, 1, four()), groups(12, -1, four()),
	}
}

// twos are plans of at most two occurrences, most of which are of no query.
func twos() []api.Plan {
	var one, l []api.Plan
	for occ := range 4 {
		one = append(one, scan(occ))
		for _, i := range []int{0, 1, 4, 5, 8, 9} {
			one = append(one, sorted(i, scan(occ)))
		}
	}
	l = append(l, one...)
	for _, a := range one {
		for _, b := range one {
			l = append(l, together(a, b)...)
		}
	}
	return l
}

// together are both, by each Op, and by some pairs.
func together(a, b api.Plan) []api.Plan {
	l := []api.Plan{nest(a, b)}
	for _, pair := range [][2]int{{0, 4}, {4, 0}, {1, 4}, {1, 5}, {5, 9}, {9, 5}, {1, 8}} {
		l = append(l, hash(pair[0], pair[1], a, b), merge(pair[0], pair[1], a, b))
	}
	return l
}

// more are plans of those that may be, of l, and of what they are put together with.
func more(c api.Cat, q api.Query, l []api.Plan) []api.Plan {
	var of, out []api.Plan
	for i, p := range l {
		if mayBe(c, q, p) && (i%5 == 0 || i < 200) {
			of = append(of, p)
		}
	}
	of = of[:min(len(of), 60)]
	for i, a := range of {
		for _, j := range []int{0, 1, 4, 5, 8} {
			out = append(out, sorted(j, a))
		}
		for _, b := range of[i%3:] {
			if text(nest(a, b)) != "" {
				out = append(out, together(a, b)...)
			}
		}
	}
	return out
}

// holds holds what is told of p against the model.
func holds(t *testing.T, c api.Cat, q api.Query, p api.Plan) bool {
	t.Helper()
	few, may, in, want, cost := hasForm(p), mayBe(c, q, p), -1, "", top
	if few {
		in, want = order(p), text(p)
	}
	if may {
		cost = held(price(c, q, p))
	}
	x, ok := plan.Tree(p)
	if plan.Few(p) != few || ok != (want != "") || ok && tree.Text(x) != want || plan.Order(p) != in || plan.May(c, q, p) != may || plan.Cost(c, q, p) != cost {
		t.Fatalf("%v: few %v, tree %s, order %d, may %v, cost %d, not %v, %s, %d, %v, %d", p, plan.Few(p), tree.Text(x), plan.Order(p), plan.May(c, q, p), plan.Cost(c, q, p), few, want, in, may, cost)
	}
	return may
}

// P11.1 to P11.4: of each query, plans of ever more occurrences.
func TestByModel(t *testing.T) {
	for i, q := range some() {
		if !query.May(tables(), q) {
			t.Fatalf("%d may not be", i)
		}
		l, there := twos(), map[int]int{}
		for range 3 {
			for _, p := range l {
				if holds(t, tables(), q, p) {
					there[len(occs(p))]++
				}
			}
			l = more(tables(), q, l)
		}
		for n := 1; n <= len(q.Occ); n++ {
			if there[n] == 0 {
				t.Errorf("%d: of %d occurrences there are none", i, n)
			}
		}
	}
}

// changed hands on p with one field of one of its parts changed.
func changed(p api.Plan, do func(p api.Plan)) {
	var each func(at *api.Plan)
	p = copied(p)
	each = func(at *api.Plan) {
		was := *at
		for _, n := range []int{least, -2, -1, 0, 1, 2, 3, 4, 5, 8, 12, most} {
			for i := range 4 {
				*at = was
				*[]*int{&at.Op, &at.Occ, &at.Pair[0], &at.Pair[1]}[i] = n
				do(p)
			}
		}
		for n := range len(was.L) + 1 {
			*at = was
			at.L = was.L[:n]
			do(p)
			at.L = append(slices.Clip(was.L), was.L[:n]...)
			do(p)
		}
		at.L = append(slices.Clip(was.L), scan(2))
		do(p)
		at.L = slices.Clone(was.L)
		slices.Reverse(at.L)
		do(p)
		*at = was
		for i := range at.L {
			each(&at.L[i])
		}
	}
	each(&p)
}

// P11.1 to P11.4: plans that may be, with one thing changed.
func TestOneChangeByModel(t *testing.T) {
	for _, x := range may() {
		there, not := 0, 0
		changed(x.p, func(p api.Plan) {
			if holds(t, tables(), x.q, p) {
				there++
			} else {
				not++
			}
			if plan.Same(x.p, p) != reflect.DeepEqual(copied(x.p), copied(p)) {
				t.Fatalf("%v and %v: %v", x.p, p, plan.Same(x.p, p))
			}
		})
		if there == 0 || not == 0 {
			t.Errorf("%v: %d may be, and %d not", x.p, there, not)
		}
	}
}

// wholes hands on how each query may be done, and how it may not.
func wholes(do func(q api.Query, w api.Whole)) {
	for _, q := range some() {
		l := twos()
		for len(q.Occ) > 2 && len(occs(l[len(l)-1])) < len(q.Occ) {
			l = more(tables(), q, l)
		}
		n := 0
		for _, p := range l {
			if !mayBe(tables(), q, p) {
				continue
			}
			if n++; n > 300 {
				break
			}
			for end := -1; end <= 3; end++ {
				do(q, api.Whole{P: p, End: end})
				do(q, api.Whole{P: p, End: end, Sort: true})
			}
		}
	}
}

// P11.5
func TestFineAndAllByModel(t *testing.T) {
	there, not := 0, 0
	wholes(func(q api.Query, w api.Whole) {
		want, cost := fine(tables(), q, w)
		if got, n := plan.Fine(tables(), q, w), plan.All(tables(), q, w); got != want || n != cost {
			t.Fatalf("%v, of %v: %v, %d, not %v, %d", w, q, got, n, want, cost)
		}
		if want {
			there++
		} else {
			not++
		}
	})
	if there < 100 || not < 100 {
		t.Errorf("%d are fine, and %d not", there, not)
	}
}

// P11.6: none of its plans costs more, nor does what is done at last make it cost less.
func TestNoPlanCostsLessThanItsPlans(t *testing.T) {
	higher, as := 0, 0
	holds := func(c api.Cat, q api.Query, p api.Plan) {
		all := plan.Cost(c, q, p)
		for _, x := range parts(p)[1:] {
			n := plan.Cost(c, q, x)
			if n > all {
				t.Fatalf("%v costs %d, and its %v %d", p, all, x, n)
			}
			if n < all {
				higher++
			} else {
				as++
			}
		}
	}
	for _, x := range slices.Concat(may(), mayNot()) {
		holds(tables(), x.q, x.p)
	}
	wholes(func(q api.Query, w api.Whole) {
		holds(tables(), q, w.P)
		if a, b := plan.Cost(tables(), q, w.P), plan.All(tables(), q, w); b < a {
			t.Fatalf("%v costs %d, and its plan %d", w, b, a)
		}
	})
	for _, n := range []int{1, 1000, 1124, 1125, 1000000} {
		q := told(-1, []int{0, 1, 2, 3})
		for _, p := range []api.Plan{wide(4, false), wide(4, true), sorts(9, 0, wide(4, false)), nest(nest(scan(0), scan(1)), sorts(12, 8, nest(scan(2), scan(3))))} {
			holds(bigger(n), q, p)
		}
	}
	if higher == 0 || as == 0 {
		t.Errorf("%d cost more, and %d as much", higher, as)
	}
}

// bigger is a catalog of four tables, of which one has so many rows, and the others as many as there may be.
func bigger(n int) api.Cat { return tablesOf(1000000, 1000000, n, 1000000) }

// copied is p in memory of its own.
func copied(p api.Plan) api.Plan {
	var l []api.Plan
	for _, x := range p.L {
		l = append(l, copied(x))
	}
	p.L = l
	return p
}

// copiedQuery is q in memory of its own, of which the expressions have one list within another at most.
func copiedQuery(q api.Query) api.Query {
	q.Occ, q.P, q.Sums, q.Out = slices.Clone(q.Occ), slices.Clone(q.P), slices.Clone(q.Sums), slices.Clone(q.Out)
	for i := range q.P {
		q.P[i].L = slices.Clone(q.P[i].L)
	}
	return q
}

// answers are all that may be asked of a plan, and of what is done with it.
func answers(c api.Cat, q api.Query, p api.Plan) []any {
	x, ok := plan.Tree(p)
	l := []any{plan.Few(p), x, ok, plan.Order(p), plan.May(c, q, p), plan.Cost(c, q, p), plan.Same(p, copied(p))}
	for end := range api.Ends {
		w := api.Whole{P: p, End: end, Sort: end == api.Hashed}
		l = append(l, plan.Fine(c, q, w), plan.All(c, q, w))
	}
	return l
}

// R3, R5: what is handed in stays as it was, and what is told is the same the next time.
func TestStays(t *testing.T) {
	c := tables()
	for i, x := range may() {
		was, asked := copied(x.p), copiedQuery(x.q)
		first := answers(c, x.q, x.p)
		answers(c, four(), sorted(0, x.p))
		if again := answers(c, x.q, x.p); !reflect.DeepEqual(first, again) {
			t.Errorf("%d: %v, and then %v", i, first, again)
		}
		if !reflect.DeepEqual(copied(x.p), was) || !reflect.DeepEqual(copiedQuery(x.q), asked) || !reflect.DeepEqual(c, tables()) {
			t.Errorf("%d is changed: %v, was %v", i, x.p, was)
		}
	}
}

// R3: a tree is the caller's own: it changes neither with the plan, nor with another answer, nor by its own other parts.
func TestTreesAreTheCallers(t *testing.T) {
	for i, x := range may() {
		want := text(x.p)
		got, _ := plan.Tree(x.p)
		other, _ := plan.Tree(x.p)
		spoil(&other)
		if text(x.p) != want {
			t.Errorf("%d: the plan is changed with its tree: %s, was %s", i, text(x.p), want)
		}
		for _, part := range parts(x.p) {
			for j := range part.L {
				part.L[j] = api.Plan{Op: 9, Occ: 9}
			}
		}
		if tree.Text(got) != want {
			t.Errorf("%d: the tree is %s, was %s", i, tree.Text(got), want)
		}
	}
}

// spoil changes all of t.
func spoil(t *api.Tree) {
	for i := range t.L {
		spoil(&t.L[i])
	}
	t.Occ = 7
}

// P1, R1: every call comes back, whatever it is of, and what it tells is within bounds.
func TestAnyArguments(t *testing.T) {
	plans := slices.Concat(formed(), formless())
	queries := append(wrongQueries(four()), four(), two(), groups(0, 0, two()))
	queries = append(queries, api.Query{Occ: make([]int, 100), P: make([]api.Expr, 100), By: most, Sums: make([]int, 100), Out: make([]int, 100), Ord: least})
	for _, c := range append(wrongCats(), tables()) {
		for _, q := range queries {
			for i, p := range plans {
				n := plan.Cost(c, q, p)
				if n < 0 || n > top || !plan.May(c, q, p) && n != top {
					t.Fatalf("%d: %d", i, n)
				}
				for _, end := range []int{least, -1, 0, 1, 2, 3, most} {
					w := api.Whole{P: p, End: end, Sort: i%2 == 1}
					if n := plan.All(c, q, w); n < 0 || n > top || !plan.Fine(c, q, w) && n != top {
						t.Fatalf("%d, end %d: %d", i, end, n)
					}
				}
			}
		}
	}
	for i, p := range plans {
		for j, other := range plans {
			if a, b := plan.Same(p, other), plan.Same(other, p); a != b {
				t.Errorf("%d and %d: %v, and %v", i, j, a, b)
			}
		}
	}
}
