package tests

import (
	"math/big"
	"math/rand"
	"reflect"
	"testing"

	"loop.example/s0035/impl"
)

// oper is an operator to test with: a node without the places of its kids, and the operators below it.
type oper struct {
	n impl.PNode
	l *oper
	r *oper
}

func pUnit() oper {
	return oper{n: impl.PNode{K: impl.PUnit}}
}

func pScan(table int) oper {
	return oper{n: impl.PNode{K: impl.PScan, T: table}}
}

func pSelect(x []impl.Op, l oper) oper {
	return oper{n: impl.PNode{K: impl.PSelect, Ex: x}, l: &l}
}

func pMap(l oper, xs ...[]impl.Op) oper {
	return oper{n: impl.PNode{K: impl.PMap, Exs: xs}, l: &l}
}

// pTwo is an operator of two kids without expressions: PCross, PDep or PUnion.
func pTwo(kind int, l oper, r oper) oper {
	return oper{n: impl.PNode{K: kind}, l: &l, r: &r}
}

func pMark(x []impl.Op, l oper, r oper) oper {
	return oper{n: impl.PNode{K: impl.PMark, Ex: x}, l: &l, r: &r}
}

func pAgg(m int, x []impl.Op, l oper, r oper) oper {
	return oper{n: impl.PNode{K: impl.PAgg, M: m, Ex: x}, l: &l, r: &r}
}

func pCount(l oper, r oper) oper {
	return pAgg(1, nil, l, r)
}

func pDistinct(l oper) oper {
	return oper{n: impl.PNode{K: impl.PDistinct}, l: &l}
}

func layPlan(nodes []impl.PNode, o oper) []impl.PNode {
	n := o.n
	if o.l != nil {
		nodes = layPlan(nodes, *o.l)
		n.L = len(nodes) - 1
	}
	if o.r != nil {
		nodes = layPlan(nodes, *o.r)
		n.R = len(nodes) - 1
	}
	return append(nodes, n)
}

func (o oper) plan() impl.Plan {
	return clonePlan(impl.Plan{Nodes: layPlan(nil, o)})
}

func clonePlan(p impl.Plan) impl.Plan {
	out := impl.Plan{}
	for _, n := range p.Nodes {
		n.Ex = append([]impl.Op(nil), n.Ex...)
		xs := n.Exs
		n.Exs = nil
		for _, x := range xs {
			n.Exs = append(n.Exs, append([]impl.Op(nil), x...))
		}
		out.Nodes = append(out.Nodes, n)
	}
	return out
}

func cloneDb(db impl.Db) impl.Db {
	out := impl.Db{}
	for _, table := range db.Tables {
		table.Rows = cloneRows(table.Rows)
		out.Tables = append(out.Tables, table)
	}
	return out
}

func sameDb(a impl.Db, b impl.Db) bool {
	if len(a.Tables) != len(b.Tables) {
		return false
	}
	for i, x := range a.Tables {
		y := b.Tables[i]
		if x.Name != y.Name || x.Cols != y.Cols || len(x.Rows) != len(y.Rows) {
			return false
		}
		for k := range x.Rows {
			if !sameRow(x.Rows[k], y.Rows[k]) {
				return false
			}
		}
	}
	return true
}

func tableOf(name string, cols int, rows ...[]impl.Val) impl.Table {
	return impl.Table{Name: name, Cols: cols, Rows: rows}
}

// bigTable has that many rows of one column: 0, 1, ..
func bigTable(name string, rows int) impl.Table {
	out := tableOf(name, 1)
	for i := range rows {
		out.Rows = append(out.Rows, nums(int64(i)))
	}
	return out
}

// col, lit and is are expressions of a few Ops.
func col(c int64) []impl.Op {
	return ex(op(impl.XCol, c))
}

func lit(n int64) []impl.Op {
	return ex(op(impl.XInt, n))
}

func is(a []impl.Op, comp int64, b []impl.Op) []impl.Op {
	return append(append(append([]impl.Op{}, a...), b...), op(impl.XCmp, comp))
}

// smallDb has a table of two columns with NULLs of two spellings and a row twice, one of one column, and one of
// one column without rows.
func smallDb() impl.Db {
	return impl.Db{Tables: []impl.Table{
		tableOf("r", 2, nums(1, 1), row(num(1), oddNull(7)), nums(2, 3), nums(1, 1), row(num(2), null())),
		tableOf("s", 1, nums(1), row(null()), nums(3), row(oddNull(-4)), nums(3)),
		tableOf("none", 1),
	}}
}

// wrongDbs are changes each of which makes smallDb a Db that is not valid.
func wrongDbs() map[string]func(db *impl.Db) {
	return map[string]func(db *impl.Db){
		"a name":         func(db *impl.Db) { db.Tables[2].Name = "SELECT" },
		"two names":      func(db *impl.Db) { db.Tables[2].Name = "r" },
		"no columns":     func(db *impl.Db) { db.Tables[2].Cols = 0 },
		"columns":        func(db *impl.Db) { db.Tables[2].Cols = impl.MaxCols + 1 },
		"a row":          func(db *impl.Db) { db.Tables[2].Rows = [][]impl.Val{nums(1, 2)} },
		"many rows":      func(db *impl.Db) { db.Tables[2] = bigTable("none", impl.MaxRows) },
		"too many":       func(db *impl.Db) { db.Tables = append(db.Tables, manyTables(impl.MaxTables).Tables...) },
		"a row too long": func(db *impl.Db) { db.Tables[1].Rows[0] = nums(1, 2) },
	}
}

// planWant is what PlanOk has to say, by the words of the document alone: it goes down from the root, with the
// environment in hand.
func planWant(p impl.Plan, db impl.Db) (int, bool) {
	if len(p.Nodes) < 1 || len(p.Nodes) > 2000 || !dbWant(db) {
		return 0, false
	}
	width, begin, ok := nodeWant(p, db, len(p.Nodes)-1, 0)
	if !ok || begin != 0 {
		return 0, false
	}
	return width, true
}

func dbWant(db impl.Db) bool {
	rows := 0
	for i, table := range db.Tables {
		for _, other := range db.Tables[:i] {
			if other.Name == table.Name {
				return false
			}
		}
		if !goodName(table.Name) || table.Cols <= 0 || table.Cols > 16 {
			return false
		}
		for _, r := range table.Rows {
			rows++
			if len(r) != table.Cols {
				return false
			}
		}
	}
	return len(db.Tables) <= 50 && rows <= 1000
}

// nodeWant gives the width of a node, the first place of its stretch, and whether all is well from it down.
func nodeWant(p impl.Plan, db impl.Db, i int, env int) (int, int, bool) {
	n := p.Nodes[i]
	one := []int{3, 4, 9}
	two := []int{5, 6, 7, 8, 10}
	kids, begin := []int{0, 0}, i
	wl, wr := 0, 0
	if has(two, n.K) {
		// The place of L hangs on where the stretch of R begins, and the environment of R on the width of L.
		if n.L < 0 || n.L >= i || n.R != i-1 {
			return 0, 0, false
		}
		l, first, ok := nodeWant(p, db, n.L, env)
		inner := env
		if n.K >= 6 && n.K <= 8 {
			inner += l
		}
		r, next, rOk := nodeWant(p, db, n.R, inner)
		if !ok || !rOk || next != n.L+1 {
			return 0, 0, false
		}
		wl, wr, begin, kids = l, r, first, []int{n.L, n.R}
	} else if has(one, n.K) {
		if i == 0 || n.L != i-1 {
			return 0, 0, false
		}
		l, first, ok := nodeWant(p, db, n.L, env)
		if !ok {
			return 0, 0, false
		}
		wl, begin, kids = l, first, []int{n.L, 0}
	}
	width, ok := ownWant(n, db, env, wl, wr, kids)
	return width, begin, ok && width+env <= 200
}

func has(list []int, n int) bool {
	for _, x := range list {
		if x == n {
			return true
		}
	}
	return false
}

// ownWant asks for one node alone, with the widths of its kids in hand.
func ownWant(n impl.PNode, db impl.Db, env int, wl int, wr int, kids []int) (int, bool) {
	left := impl.PNode{K: n.K, L: kids[0], R: kids[1]}
	width, ok := 0, true
	switch n.K {
	case 1:
		width = 0
	case 2:
		left.T = n.T
		ok = n.T >= 0 && n.T < len(db.Tables)
		if ok {
			width = db.Tables[n.T].Cols
		}
	case 3:
		left.Ex = n.Ex
		width, ok = wl, exWant(n.Ex, env+wl)
	case 4:
		left.Exs = n.Exs
		width = len(n.Exs)
		for _, x := range n.Exs {
			ok = ok && exWant(x, env+wl)
		}
	case 5, 6:
		width = wl + wr
	case 7:
		left.Ex = n.Ex
		width, ok = wl+1, exWant(n.Ex, env+wl+wr)
	case 8:
		left.M = n.M
		width, ok = wl+1, n.M >= 1 && n.M <= 4
		if n.M != 1 {
			left.Ex = n.Ex
			ok = ok && exWant(n.Ex, env+wl+wr)
		}
	case 9:
		width = wl
	case 10:
		width, ok = wl, wl == wr
	default:
		return 0, false
	}
	same := left.T == n.T && left.M == n.M && left.L == n.L && left.R == n.R && len(left.Ex) == len(n.Ex) && len(left.Exs) == len(n.Exs)
	return width, ok && same
}

// exWant asks for an expression by reading it from its end, at a row of that width.
func exWant(x []impl.Op, width int) bool {
	if len(x) > 5000 {
		return false
	}
	for _, o := range x {
		if o.K < 1 || o.K > 8 {
			return false
		}
	}
	_, begin, ok := readBack(x, len(x), make([]impl.Val, width))
	return ok && begin == 0
}

// workWant is what PlanWork has to say of a valid plan. It cuts nothing off before the end, which comes to the same.
func workWant(o oper, db impl.Db) int {
	work := new(big.Int)
	var rows func(o oper) *big.Int
	rows = func(o oper) *big.Int {
		switch o.n.K {
		case impl.PUnit:
			return big.NewInt(1)
		case impl.PScan:
			return big.NewInt(int64(len(db.Tables[o.n.T].Rows)))
		case impl.PCross, impl.PDep:
			return new(big.Int).Mul(rows(*o.l), rows(*o.r))
		case impl.PUnion:
			return new(big.Int).Add(rows(*o.l), rows(*o.r))
		}
		return rows(*o.l)
	}
	var down func(o oper, calls *big.Int)
	down = func(o oper, calls *big.Int) {
		if here := new(big.Int).Mul(calls, rows(o)); here.Cmp(work) > 0 {
			work = here
		}
		if o.l != nil {
			down(*o.l, calls)
		}
		if o.r != nil && has([]int{impl.PDep, impl.PMark, impl.PAgg}, o.n.K) {
			down(*o.r, new(big.Int).Mul(calls, rows(*o.l)))
		} else if o.r != nil {
			down(*o.r, calls)
		}
	}
	down(o, big.NewInt(1))
	if work.Cmp(big.NewInt(2000)) > 0 {
		return 2001
	}
	return int(work.Int64())
}

// bag is the rows of an operator in an environment, by the words of the table alone.
func bag(o oper, db impl.Db, env []impl.Val) [][]impl.Val {
	var out [][]impl.Val
	switch o.n.K {
	case impl.PUnit:
		return [][]impl.Val{{}}
	case impl.PScan:
		return db.Tables[o.n.T].Rows
	case impl.PUnion:
		return append(append(out, bag(*o.l, db, env)...), bag(*o.r, db, env)...)
	}
	for _, l := range bag(*o.l, db, env) {
		seen := glue(env, l)
		inner := env
		if o.n.K != impl.PCross {
			inner = seen
		}
		var rights [][]impl.Val
		if o.r != nil {
			rights = bag(*o.r, db, inner)
		}
		switch o.n.K {
		case impl.PSelect:
			if level(valueAt(o.n.Ex, seen)) == 2 {
				out = append(out, l)
			}
		case impl.PMap:
			made := []impl.Val{}
			for _, x := range o.n.Exs {
				made = append(made, valueAt(x, seen))
			}
			out = append(out, made)
		case impl.PCross, impl.PDep:
			for _, r := range rights {
				out = append(out, glue(l, r))
			}
		case impl.PMark:
			out = append(out, glue(l, row(markWant(valuesAt(o.n.Ex, seen, rights)))))
		case impl.PAgg:
			out = append(out, glue(l, row(aggWant(o.n.M, len(rights), valuesAt(o.n.Ex, seen, rights)))))
		case impl.PDistinct:
			if countAlike(out, l) == 0 {
				out = append(out, l)
			}
		}
	}
	return out
}

func glue(a []impl.Val, b []impl.Val) []impl.Val {
	return append(append([]impl.Val{}, a...), b...)
}

func valueAt(x []impl.Op, r []impl.Val) impl.Val {
	v, _, _ := readBack(x, len(x), r)
	if v.Null {
		return null()
	}
	return v
}

func valuesAt(x []impl.Op, seen []impl.Val, rights [][]impl.Val) []impl.Val {
	var out []impl.Val
	for _, r := range rights {
		if len(x) > 0 {
			out = append(out, valueAt(x, glue(seen, r)))
		}
	}
	return out
}

func markWant(vals []impl.Val) impl.Val {
	high := 0
	for _, v := range vals {
		high = max(high, level(v))
	}
	return ofLevel(high)
}

func aggWant(m int, rows int, vals []impl.Val) impl.Val {
	if m == 1 {
		return num(int64(rows))
	}
	var there []int64
	for _, v := range vals {
		if !v.Null {
			there = append(there, v.N)
		}
	}
	if m == 2 {
		return num(int64(len(there)))
	}
	if len(there) == 0 {
		return null()
	}
	least, most := there[0], there[0]
	for _, n := range there {
		least, most = min(least, n), max(most, n)
	}
	return num([]int64{least, most}[m-3])
}

// wantBag asks that the rows are the wanted ones, as many times each, in increasing order and with clean NULLs.
func wantBag(t *testing.T, what string, got [][]impl.Val, want [][]impl.Val) {
	t.Helper()
	if len(got) != len(want) {
		t.Errorf("%s: %d rows, not %d: %v\nwant %v", what, len(got), len(want), got, want)
		return
	}
	for i, r := range got {
		if i > 0 && impl.RowCmp(got[i-1], r) > 0 {
			t.Errorf("%s: row %d is below the one in front of it: %v", what, i, got)
		}
		if countAlike(got, r) != countAlike(want, r) {
			t.Errorf("%s: row %v is there %d times, not %d", what, r, countAlike(got, r), countAlike(want, r))
		}
		for _, v := range r {
			if v.Null && v.N != 0 {
				t.Errorf("%s: a NULL with N %d", what, v.N)
			}
		}
	}
}

// wantPlan asks all three functions about a plan that is to be valid, and that they leave their arguments.
func wantPlan(t *testing.T, what string, o oper, db impl.Db) {
	t.Helper()
	p := o.plan()
	keepPlan, keepDb := clonePlan(p), cloneDb(db)
	wantWidth, valid := planWant(p, db)
	if width, ok := impl.PlanOk(p, db); !valid || !ok || width != wantWidth {
		t.Errorf("%s: PlanOk %d %v, not %d %v: %v", what, width, ok, wantWidth, valid, p)
		return
	}
	work := workWant(o, db)
	if got := impl.PlanWork(p, db); got != work {
		t.Errorf("%s: PlanWork %d, not %d: %v", what, got, work, p)
	}
	rows, ok := impl.EvalPlan(p, db)
	if ok != (work <= impl.MaxWork) || !ok && len(rows) != 0 {
		t.Errorf("%s: EvalPlan says %v with %d rows at work %d: %v", what, ok, len(rows), work, p)
	}
	if ok {
		wantBag(t, what, rows, bag(o, db, nil))
	}
	if !reflect.DeepEqual(p, keepPlan) || !sameDb(db, keepDb) {
		t.Errorf("%s: an argument has changed", what)
	}
}

// wantNoPlan asks that none of the three functions takes a plan.
func wantNoPlan(t *testing.T, what string, p impl.Plan, db impl.Db) {
	t.Helper()
	if _, valid := planWant(p, db); valid {
		t.Errorf("%s: the plan is valid: %v", what, p)
	}
	if width, ok := impl.PlanOk(p, db); ok || width != 0 {
		t.Errorf("%s: PlanOk %d %v: %v", what, width, ok, p)
	}
	if work := impl.PlanWork(p, db); work != -1 {
		t.Errorf("%s: PlanWork %d", what, work)
	}
	if rows, ok := impl.EvalPlan(p, db); ok || len(rows) != 0 {
		t.Errorf("%s: EvalPlan %v %v", what, rows, ok)
	}
}

// tally counts what came of plans made by chance, so that a test can ask for enough of each.
type tally struct {
	ran     int
	stopped int
	full    int
}

func (c *tally) add(rows [][]impl.Val, ok bool) {
	if ok {
		c.ran++
	} else {
		c.stopped++
	}
	if len(rows) > 1 {
		c.full++
	}
}

// want asks that at least so many ran, were stopped by their work, and have several rows.
func (c tally) want(t *testing.T, ran int, stopped int, full int) {
	t.Helper()
	if c.ran < ran || c.stopped < stopped || c.full < full {
		t.Errorf("%d ran, %d stopped, %d have rows", c.ran, c.stopped, c.full)
	}
}

// planner makes plans by chance.
type planner struct {
	r  *rand.Rand
	db impl.Db
}

func chanceDb(r *rand.Rand) impl.Db {
	db := impl.Db{}
	for i := range 1 + r.Intn(4) {
		table := tableOf("t"+string(rune('a'+i)), 1+r.Intn(3))
		for range r.Intn(5) {
			var vals []impl.Val
			for range table.Cols {
				vals = append(vals, chanceVal(r))
			}
			table.Rows = append(table.Rows, vals)
		}
		db.Tables = append(db.Tables, table)
	}
	return db
}

func chanceVal(r *rand.Rand) impl.Val {
	switch r.Intn(5) {
	case 0:
		return oddNull(int64(r.Intn(3)))
	case 1:
		return null()
	}
	return num(int64(r.Intn(4) - 1))
}

func (g planner) width(o oper) int {
	switch o.n.K {
	case impl.PUnit:
		return 0
	case impl.PScan:
		return g.db.Tables[o.n.T].Cols
	case impl.PMap:
		return len(o.n.Exs)
	case impl.PCross, impl.PDep:
		return g.width(*o.l) + g.width(*o.r)
	case impl.PMark, impl.PAgg:
		return g.width(*o.l) + 1
	}
	return g.width(*o.l)
}

// ex makes a valid expression for rows of a width.
func (g planner) ex(width int, high int) []impl.Op {
	switch pick := g.r.Intn(10); {
	case high == 0 && width == 0 || pick == 0:
		return [][]impl.Op{lit(int64(g.r.Intn(3))), ex(op(impl.XNull, 0))}[g.r.Intn(2)]
	case width > 0 && (high == 0 || pick < 4):
		return col(int64(g.r.Intn(width)))
	case high == 0:
		return lit(0)
	case pick < 7:
		return is(g.ex(width, high-1), int64(1+g.r.Intn(6)), g.ex(width, high-1))
	case pick < 8:
		return append(append(g.ex(width, high-1), g.ex(width, high-1)...), op([]int{impl.XAnd, impl.XOr}[g.r.Intn(2)], 0))
	}
	return append(g.ex(width, high-1), op([]int{impl.XNot, impl.XIsNull}[g.r.Intn(2)], 0))
}

// exs makes that many expressions, or when that is below 0 any number.
func (g planner) exs(width int, many int) [][]impl.Op {
	if many < 0 {
		many = g.r.Intn(4)
	}
	var out [][]impl.Op
	for range many {
		out = append(out, g.ex(width, 2))
	}
	return out
}

func (g planner) plan(env int, high int) oper {
	kind := 1 + g.r.Intn(10)
	if high == 0 {
		kind = 1 + min(1, g.r.Intn(4))
	}
	return g.of(kind, env, high, func(env int) oper { return g.plan(env, high-1) }, func(env int) oper { return g.plan(env, high-1) })
}

// of makes an operator of a kind; left and right make what is below it, in the environments they are given.
func (g planner) of(kind int, env int, high int, left func(env int) oper, right func(env int) oper) oper {
	switch kind {
	case impl.PUnit:
		return pUnit()
	case impl.PScan:
		return pScan(g.r.Intn(len(g.db.Tables)))
	}
	l := left(env)
	wl := g.width(l)
	switch kind {
	case impl.PSelect:
		return pSelect(g.ex(env+wl, 2), l)
	case impl.PMap:
		return pMap(l, g.exs(env+wl, -1)...)
	case impl.PDistinct:
		return pDistinct(l)
	case impl.PCross:
		return pTwo(kind, l, right(env))
	case impl.PUnion:
		r := right(env)
		if wr := g.width(r); wr != wl {
			r = pMap(r, g.exs(env+wr, wl)...)
		}
		return pTwo(kind, l, r)
	}
	r := right(env + wl)
	seen := env + wl + g.width(r)
	switch m := 1 + g.r.Intn(4); {
	case kind == impl.PDep:
		return pTwo(kind, l, r)
	case kind == impl.PMark:
		return pMark(g.ex(seen, 2), l, r)
	case m > 1:
		return pAgg(m, g.ex(seen, 2), l, r)
	}
	return pCount(l, r)
}
