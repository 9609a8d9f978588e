package val_test

import (
	"math/big"
	"testing"

	"roadbook/api"
	"roadbook/val"
)

// The model tells each call's answer from the promises' words alone, with numbers of any length.

func asRead(v api.Val) api.Val {
	if v.K == 0 || (v.K == 1 || v.K == 2) && v.N == 0 {
		return v
	}
	return api.Val{K: 2}
}

func has(l []api.Val, kind int) bool {
	for _, v := range l {
		if asRead(v).K == kind {
			return true
		}
	}
	return false
}

func fromBig(x *big.Int) api.Val {
	if !x.IsInt64() {
		return api.Val{K: 2}
	}
	return api.Val{N: int(x.Int64())}
}

func fromBool(yes bool) api.Val {
	if yes {
		return api.Val{N: 1}
	}
	return api.Val{}
}

func modelBinary(name string, a, b api.Val) api.Val {
	if has([]api.Val{a, b}, 2) {
		return api.Val{K: 2}
	}
	if has([]api.Val{a, b}, 1) {
		return api.Val{K: 1}
	}
	x, y := big.NewInt(int64(a.N)), big.NewInt(int64(b.N))
	switch name {
	case "Add":
		return fromBig(x.Add(x, y))
	case "Sub":
		return fromBig(x.Sub(x, y))
	case "Mul":
		return fromBig(x.Mul(x, y))
	case "Div":
		if y.Sign() == 0 {
			return api.Val{K: 2}
		}
		return fromBig(x.Quo(x, y))
	case "Eq":
		return fromBool(x.Cmp(y) == 0)
	}
	return fromBool(x.Cmp(y) < 0)
}

func modelMany(name string, l []api.Val) api.Val {
	total, numbers, noughts, others := new(big.Int), 0, 0, 0
	for _, v := range l {
		if v.K != 0 {
			continue
		}
		numbers++
		total.Add(total, big.NewInt(int64(v.N)))
		if v.N == 0 {
			noughts++
		} else {
			others++
		}
	}
	switch {
	case name == "And" && noughts > 0:
		return api.Val{}
	case name == "Or" && others > 0:
		return api.Val{N: 1}
	case has(l, 2):
		return api.Val{K: 2}
	case name == "Sum" && numbers == 0:
		return api.Val{K: 1}
	case name == "Sum":
		return fromBig(total)
	case has(l, 1):
		return api.Val{K: 1}
	}
	return fromBool(name == "And")
}

func modelValues() []api.Val {
	const root = 3037000499 // the greatest whose square fits
	numbers := []int{0, 1, 2, 3, 7, 1 << 31, 1 << 32, 1 << 33, root, root + 1, most / 3, most/3 + 1, most / 2, most/2 + 1, most - 1, most}
	var l []api.Val
	for _, i := range numbers {
		l = append(l, val.Of(i), val.Of(-i), val.Of(^i))
	}
	return append(append(l, null, bad), wrong...)
}

// P1.2, P1.3
func TestBinaryByModel(t *testing.T) {
	for _, f := range allBinary() {
		for _, a := range modelValues() {
			for _, b := range modelValues() {
				if got, want := f.do(a, b), modelBinary(f.name, a, b); got != want {
					t.Errorf("%s(%v, %v) = %v, not %v", f.name, a, b, got, want)
				}
			}
		}
	}
}

// eachList hands on all lists of at most long of the values.
func eachList(values []api.Val, long int, do func([]api.Val)) {
	var more func(l []api.Val)
	more = func(l []api.Val) {
		do(l)
		if len(l) == long {
			return
		}
		for _, v := range values {
			more(append(l, v))
		}
	}
	more(make([]api.Val, 0, long))
}

func listValues() []api.Val {
	return []api.Val{n(0), n(1), n(-1), n(least), n(most), n(most - 1), null, bad, {K: 3}, {K: 1, N: 1}, {K: -1}}
}

// P1.4, P1.5
func TestManyByModel(t *testing.T) {
	for _, f := range allMany() {
		eachList(listValues(), 5, func(l []api.Val) {
			if got, want := f.do(l...), modelMany(f.name, l); got != want {
				t.Fatalf("%s(%v) = %v, not %v", f.name, l, got, want)
			}
		})
	}
}

// P1.6: a turn by one place and a swap of the first two come, one behind the other, to all orders.
func TestOrderOfLists(t *testing.T) {
	for _, f := range allMany() {
		eachList(listValues(), 4, func(l []api.Val) {
			if len(l) < 2 {
				return
			}
			want := f.do(l...)
			round := append(append([]api.Val{}, l[1:]...), l[0])
			swapped := append([]api.Val{l[1], l[0]}, l[2:]...)
			if a, b := f.do(round...), f.do(swapped...); a != want || b != want {
				t.Fatalf("%s(%v) = %v, in other orders %v, %v", f.name, l, want, a, b)
			}
		})
	}
}

// P1.6: of two values just one is less, or they are the same; and what is less than a less one is less.
func TestOrderOfValues(t *testing.T) {
	l := modelValues()
	for _, a := range l {
		for _, b := range l {
			below, above, same := val.Less(a, b), val.Less(b, a), asRead(a) == asRead(b)
			if below && above || (below || above) == same {
				t.Errorf("%v and %v: less %v, more %v, same %v", a, b, below, above, same)
			}
			for _, c := range l {
				if below && val.Less(b, c) && !val.Less(a, c) {
					t.Errorf("%v, %v and %v do not rise", a, b, c)
				}
			}
		}
	}
}

// P1, R4, R5: every answer may be, and is the same when it is asked again.
func TestAnswersMayBe(t *testing.T) {
	for _, f := range allBinary() {
		for _, a := range modelValues() {
			for _, b := range modelValues() {
				if got := f.do(a, b); !val.May(got) || got != f.do(a, b) {
					t.Errorf("%s(%v, %v) = %v", f.name, a, b, got)
				}
			}
		}
	}
	for _, f := range allMany() {
		eachList(listValues(), 3, func(l []api.Val) {
			if got := f.do(l...); !val.May(got) || got != f.do(l...) {
				t.Fatalf("%s(%v) = %v", f.name, l, got)
			}
		})
	}
}

// P1.5: a long sum that goes round many times, and comes back.
func TestLongSum(t *testing.T) {
	var l []api.Val
	for range 1000 {
		l = append(l, n(most))
	}
	if got := val.Sum(l...); got != bad {
		t.Errorf("too great: %v", got)
	}
	for range 1000 {
		l = append(l, n(-most))
	}
	if got := val.Sum(l...); got != n(0) {
		t.Errorf("back at 0: %v", got)
	}
}
