package play_test

import (
	"math"
	"reflect"
	"testing"

	"roadbook/api"
	"roadbook/bag"
	"roadbook/calls"
	"roadbook/card"
	"roadbook/cost"
	"roadbook/data"
	"roadbook/draw"
	"roadbook/expr"
	"roadbook/grow"
	"roadbook/impl"
	"roadbook/means"
	"roadbook/memo"
	"roadbook/opt"
	"roadbook/plan"
	"roadbook/play"
	"roadbook/query"
	"roadbook/rule"
	"roadbook/run"
	"roadbook/sets"
	"roadbook/tree"
	"roadbook/val"
	"roadbook/win"
	"roadbook/work"
)

// layers are all calls that the chapters list, by the signatures that these give: with another one this does not build.
var layers = []struct {
	name string
	call any
}{
	{"val.May", (func(v api.Val) bool)(val.May)},
	{"val.Of", (func(n int) api.Val)(val.Of)},
	{"val.Less", (func(a, b api.Val) bool)(val.Less)},
	{"val.Add", (func(a, b api.Val) api.Val)(val.Add)},
	{"val.Sub", (func(a, b api.Val) api.Val)(val.Sub)},
	{"val.Mul", (func(a, b api.Val) api.Val)(val.Mul)},
	{"val.Div", (func(a, b api.Val) api.Val)(val.Div)},
	{"val.Eq", (func(a, b api.Val) api.Val)(val.Eq)},
	{"val.Lt", (func(a, b api.Val) api.Val)(val.Lt)},
	{"val.And", (func(l ...api.Val) api.Val)(val.And)},
	{"val.Or", (func(l ...api.Val) api.Val)(val.Or)},
	{"val.Not", (func(v api.Val) api.Val)(val.Not)},
	{"val.True", (func(v api.Val) bool)(val.True)},
	{"val.Sum", (func(l ...api.Val) api.Val)(val.Sum)},
	{"expr.May", (func(e api.Expr) bool)(expr.May)},
	{"expr.Same", (func(a, b api.Expr) bool)(expr.Same)},
	{"expr.Cols", (func(e api.Expr) []int)(expr.Cols)},
	{"expr.Eval", (func(e api.Expr, cols []int, row []api.Val) api.Val)(expr.Eval)},
	{"expr.Keeps", (func(e api.Expr, cols []int, row []api.Val) bool)(expr.Keeps)},
	{"expr.Pair", (func(e api.Expr) (int, int, bool))(expr.Pair)},
	{"bag.May", (func(b api.Bag) bool)(bag.May)},
	{"bag.Same", (func(a, b api.Bag) bool)(bag.Same)},
	{"bag.Cross", (func(a, b api.Bag) (api.Bag, bool))(bag.Cross)},
	{"bag.Keep", (func(b api.Bag, l []api.Expr) api.Bag)(bag.Keep)},
	{"bag.Pick", (func(b api.Bag, cols []int) (api.Bag, bool))(bag.Pick)},
	{"bag.Sorted", (func(b api.Bag, col int) bool)(bag.Sorted)},
	{"bag.Sort", (func(b api.Bag, col int) api.Bag)(bag.Sort)},
	{"bag.Group", (func(b api.Bag, by int, sums []int) (api.Bag, bool))(bag.Group)},
	{"data.May", (func(c api.Cat) bool)(data.May)},
	{"data.Fits", (func(c api.Cat, d api.Data) bool)(data.Fits)},
	{"data.Col", (func(occ, col int) int)(data.Col)},
	{"data.Split", (func(id int) (int, int, bool))(data.Split)},
	{"data.Of", (func(c api.Cat, d api.Data, table, occ int) (api.Bag, bool))(data.Of)},
	{"data.New", (func(l ...api.Def) (api.Cat, bool))(data.New)},
	{"query.May", (func(c api.Cat, q api.Query) bool)(query.May)},
	{"query.Of", (func(e api.Expr) int)(query.Of)},
	{"query.Cols", (func(c api.Cat, q api.Query, set int) []int)(query.Cols)},
	{"query.Own", (func(q api.Query, set int) []int)(query.Own)},
	{"query.New", (func(q api.Query, a, b int) []int)(query.New)},
	{"query.Pairs", (func(q api.Query, a, b int) [][2]int)(query.Pairs)},
	{"query.Orders", (func(q api.Query) []int)(query.Orders)},
	{"tree.May", (func(t api.Tree) bool)(tree.May)},
	{"tree.Set", (func(t api.Tree) int)(tree.Set)},
	{"tree.Same", (func(a, b api.Tree) bool)(tree.Same)},
	{"tree.Leaf", (func(occ int) api.Tree)(tree.Leaf)},
	{"tree.Join", (func(a, b api.Tree) api.Tree)(tree.Join)},
	{"tree.Text", (func(t api.Tree) string)(tree.Text)},
	{"tree.Read", (func(s string) (api.Tree, bool))(tree.Read)},
	{"tree.First", (func(n int) api.Tree)(tree.First)},
	{"tree.All", (func(set int) []api.Tree)(tree.All)},
	{"means.Rows", (func(c api.Cat, d api.Data, q api.Query, t api.Tree) (api.Bag, bool))(means.Rows)},
	{"means.Finish", (func(q api.Query, b api.Bag) (api.Bag, bool))(means.Finish)},
	{"means.All", (func(c api.Cat, d api.Data, q api.Query) (api.Bag, bool))(means.All)},
	{"means.Right", (func(c api.Cat, d api.Data, q api.Query, b api.Bag) bool)(means.Right)},
	{"rule.Turn", (func(t api.Tree) (api.Tree, bool))(rule.Turn)},
	{"rule.Move", (func(t api.Tree) (api.Tree, bool))(rule.Move)},
	{"rule.Next", (func(t api.Tree) []api.Tree)(rule.Next)},
	{"rule.Close", (func(t api.Tree) []api.Tree)(rule.Close)},
	{"card.Times", (func(l []int) int)(card.Times)},
	{"card.Rows", (func(c api.Cat, q api.Query, set int) int)(card.Rows)},
	{"card.Groups", (func(c api.Cat, q api.Query) int)(card.Groups)},
	{"card.Base", (func(c api.Cat, q api.Query, occ int) int)(card.Base)},
	{"cost.Add", (func(l ...int) int)(cost.Add)},
	{"cost.Scan", (func(n int) int)(cost.Scan)},
	{"cost.Nest", (func(a, b int) int)(cost.Nest)},
	{"cost.Hash", (func(a, b int) int)(cost.Hash)},
	{"cost.Merge", (func(a, b int) int)(cost.Merge)},
	{"cost.Sort", (func(n int) int)(cost.Sort)},
	{"cost.Group", (func(n int, hash bool) int)(cost.Group)},
	{"plan.Few", (func(p api.Plan) bool)(plan.Few)},
	{"plan.Tree", (func(p api.Plan) (api.Tree, bool))(plan.Tree)},
	{"plan.Order", (func(p api.Plan) int)(plan.Order)},
	{"plan.May", (func(c api.Cat, q api.Query, p api.Plan) bool)(plan.May)},
	{"plan.Cost", (func(c api.Cat, q api.Query, p api.Plan) int)(plan.Cost)},
	{"plan.Same", (func(a, b api.Plan) bool)(plan.Same)},
	{"plan.Fine", (func(c api.Cat, q api.Query, w api.Whole) bool)(plan.Fine)},
	{"plan.All", (func(c api.Cat, q api.Query, w api.Whole) int)(plan.All)},
	{"run.Rows", (func(c api.Cat, d api.Data, q api.Query, p api.Plan) (api.Bag, bool))(run.Rows)},
	{"run.Do", (func(c api.Cat, d api.Data, q api.Query, w api.Whole) (api.Bag, bool))(run.Do)},
	{"impl.Best", (func(c api.Cat, q api.Query, t api.Tree, col int) (int, api.Plan, bool))(impl.Best)},
	{"impl.Sorted", (func(c api.Cat, q api.Query, set, n int) int)(impl.Sorted)},
	{"impl.Ways", (func(q api.Query, a, b, col int) []api.Plan)(impl.Ways)},
	{"opt.Ends", (func(q api.Query) []api.Whole)(opt.Ends)},
	{"opt.Needs", (func(q api.Query, w api.Whole) int)(opt.Needs)},
	{"opt.Extra", (func(c api.Cat, q api.Query, w api.Whole) int)(opt.Extra)},
	{"opt.Best", (func(c api.Cat, q api.Query) (int, api.Whole, bool))(opt.Best)},
	{"sets.New", (func(n int) []int)(sets.New)},
	{"sets.May", (func(p []int) bool)(sets.May)},
	{"sets.Find", (func(p []int, i int) int)(sets.Find)},
	{"sets.Join", (func(p []int, a, b int) ([]int, bool))(sets.Join)},
	{"sets.Roots", (func(p []int) []int)(sets.Roots)},
	{"sets.Same", (func(p, q []int) bool)(sets.Same)},
	{"memo.May", (func(m api.Memo) bool)(memo.May)},
	{"memo.Same", (func(a, b api.Memo) bool)(memo.Same)},
	{"memo.Find", (func(m api.Memo, g int) int)(memo.Find)},
	{"memo.Canon", (func(m api.Memo, n api.Node) api.Node)(memo.Canon)},
	{"memo.Look", (func(m api.Memo, n api.Node) (int, bool))(memo.Look)},
	{"memo.Put", (func(m api.Memo, n api.Node, g int) (api.Memo, int, api.Errno))(memo.Put)},
	{"memo.Merge", (func(m api.Memo, a, b int) (api.Memo, int, api.Errno))(memo.Merge)},
	{"memo.Of", (func(m api.Memo, g int) []int)(memo.Of)},
	{"grow.Start", (func(n int) (api.Memo, int, bool))(grow.Start)},
	{"grow.Jobs", (func(m api.Memo) []api.Job)(grow.Jobs)},
	{"grow.Do", (func(m api.Memo, j api.Job) (api.Memo, api.Errno))(grow.Do)},
	{"grow.Full", (func(m api.Memo) bool)(grow.Full)},
	{"grow.Run", (func(m api.Memo, picks []int) (api.Memo, int, api.Errno))(grow.Run)},
	{"grow.Trees", (func(m api.Memo, g int) []api.Tree)(grow.Trees)},
	{"win.Sets", (func(q api.Query, m api.Memo) ([]int, bool))(win.Sets)},
	{"win.Best", (func(c api.Cat, q api.Query, m api.Memo, g, col int) (int, api.Plan, bool))(win.Best)},
	{"win.Table", (func(c api.Cat, q api.Query, m api.Memo, g int) [][2]int)(win.Table)},
	{"draw.Whole", (func(c api.Cat, q api.Query, m api.Memo, g int) (int, api.Whole, bool))(draw.Whole)},
	{"draw.Plan", (func(p api.Plan) string)(draw.Plan)},
	{"draw.Text", (func(w api.Whole) string)(draw.Text)},
	{"calls.Do", (func(m api.Memo, c api.Call) (api.Memo, api.Back))(calls.Do)},
	{"calls.All", (func(m api.Memo, l []api.Call) (api.Memo, []api.Back))(calls.All)},
	{"calls.Run", (func(m api.Memo, l [][]api.Call, script []int) (api.Memo, [][]api.Back, []api.Event))(calls.Run)},
	{"calls.Order", (func(e []api.Event) []api.Event)(calls.Order)},
	{"work.New", (func(n, workers int) (api.Floor, bool))(work.New)},
	{"work.May", (func(f api.Floor) bool)(work.May)},
	{"work.Step", (func(f api.Floor, s int) (api.Floor, int, api.Errno))(work.Step)},
	{"work.Left", (func(f api.Floor) int)(work.Left)},
	{"work.Go", (func(c api.Cat, q api.Query, l api.Limits, script []int) (api.Answer, api.Errno))(work.Go)},
	{"play.Words", (func(s string) (string, []int, bool))(play.Words)},
	{"play.Add", (func(b api.Board, s string) (api.Board, bool))(play.Add)},
	{"play.Row", (func(r []api.Val) string)(play.Row)},
	{"play.Tell", (func(b api.Board) string)(play.Tell)},
	{"play.Run", (func(s string) (string, bool))(play.Run)},
}

// filled is a value of a type: all its whole numbers are n, its texts s, and its lists have long elements, at most deep of them within one another.
func filled(t reflect.Type, n int, s string, long, deep int) reflect.Value {
	v := reflect.New(t).Elem()
	switch t.Kind() {
	case reflect.Int:
		v.SetInt(int64(n))
	case reflect.Bool:
		v.SetBool(n != 0)
	case reflect.String:
		v.SetString(s)
	case reflect.Struct:
		for i := range t.NumField() {
			v.Field(i).Set(filled(t.Field(i).Type, n, s, long, deep))
		}
	case reflect.Array:
		for i := range t.Len() {
			v.Index(i).Set(filled(t.Elem(), n, s, long, deep))
		}
	case reflect.Slice:
		if deep == 0 || long == 0 {
			return v
		}
		for range long {
			v = reflect.Append(v, filled(t.Elem(), n, s, long, deep-1))
		}
	}
	return v
}

// answer calls a call whose arguments are all filled so, and tells its name if it panics.
func answer(t *testing.T, name string, call any, n int, s string, long, deep int) {
	defer func() {
		if r := recover(); r != nil {
			t.Errorf("%s, of numbers %d, text %q, and lists of %d, %d deep: %v", name, n, s, long, deep, r)
		}
	}()
	f := reflect.ValueOf(call)
	var args []reflect.Value
	for i := range f.Type().NumIn() {
		args = append(args, filled(f.Type().In(i), n, s, long, deep))
	}
	if f.Type().IsVariadic() {
		f.CallSlice(args)
	} else {
		f.Call(args)
	}
}

// P1, R1: every call comes back, whatever it is given: zero values, nil lists, and wrong ones.
func TestEveryCallComesBack(t *testing.T) {
	texts := []string{"", " ", "\xff", "go\ngo", "((01)2)"}
	for _, l := range layers {
		for i, n := range []int{0, 1, 2, -1, 16, math.MaxInt, math.MinInt} {
			for long := range 4 {
				for deep := range 4 {
					answer(t, l.name, l.call, n, texts[i%len(texts)], long, deep)
				}
			}
		}
	}
}
