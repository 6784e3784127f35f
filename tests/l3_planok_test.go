package tests

import (
	"math"
	"math/rand"
	"testing"

	"loop.example/s0035/impl"
)

// Each kind of operator has its own number.
func TestConstantsOfPlans(t *testing.T) {
	kinds := []int{
		impl.PUnit, impl.PScan, impl.PSelect, impl.PMap, impl.PCross, impl.PDep, impl.PMark, impl.PAgg, impl.PDistinct, impl.PUnion,
	}
	for i, kind := range kinds {
		if kind != i+1 {
			t.Errorf("kind %d is %d", i+1, kind)
		}
	}
	limits := []int{impl.MaxTables, impl.MaxCols, impl.MaxRows, impl.MaxWidth, impl.MaxPlan, impl.MaxWork}
	for i, want := range []int{50, 16, 1000, 200, 2000, 2000} {
		if limits[i] != want {
			t.Errorf("limit %d is %d, not %d", i, limits[i], want)
		}
	}
}

// kindsOfPlans is a valid plan for each kind, over smallDb; the root is of that kind.
func kindsOfPlans() []oper {
	return []oper{
		pUnit(),
		pScan(1),
		pSelect(is(col(0), impl.LtOp, col(1)), pScan(0)),
		pMap(pScan(0), col(1), lit(4)),
		pTwo(impl.PCross, pScan(0), pScan(1)),
		pTwo(impl.PDep, pScan(0), pSelect(is(col(2), impl.EqOp, col(0)), pScan(1))),
		pMark(is(col(2), impl.EqOp, col(1)), pScan(0), pScan(1)),
		pAgg(3, col(2), pScan(0), pScan(1)),
		pDistinct(pScan(0)),
		pTwo(impl.PUnion, pScan(1), pScan(2)),
		pCount(pScan(0), pScan(1)),
	}
}

// Promise 8, the widths of all kinds.
func TestPlanOkWidths(t *testing.T) {
	want := []int{0, 1, 2, 2, 3, 3, 3, 3, 2, 1, 3}
	for i, o := range kindsOfPlans() {
		if width, ok := impl.PlanOk(o.plan(), smallDb()); !ok || width != want[i] {
			t.Errorf("plan %d: %d %v, not %d", i, width, ok, want[i])
		}
	}
	wantPlan(t, "a map to nothing", pMap(pScan(0)), smallDb())
	wantPlan(t, "a map of a map to nothing", pMap(pMap(pScan(0)), lit(1), lit(2)), smallDb())
	wantPlan(t, "a unit without tables", pUnit(), impl.Db{})
}

// Promise 8, fields: each field of each kind with numbers that it may not have.
func TestPlanOkFields(t *testing.T) {
	db := smallDb()
	numbers := []int{math.MinInt, -2, -1, 0, 1, 2, 3, 4, 5, 6, 11, 1 << 32, 1<<32 + 1, math.MaxInt}
	right := 0
	for _, o := range kindsOfPlans() {
		plain := o.plan()
		for i := range plain.Nodes {
			for _, n := range numbers {
				for field := range 5 {
					p := clonePlan(plain)
					node := &p.Nodes[i]
					*[]*int{&node.K, &node.T, &node.M, &node.L, &node.R}[field] = n
					right += agree(t, p, db)
				}
			}
			for _, xs := range [][][]impl.Op{nil, {}, {lit(1)}, {lit(1), lit(2)}, {nil}, {{}}} {
				p := clonePlan(plain)
				p.Nodes[i].Exs = xs
				right += agree(t, p, db)
			}
			for _, x := range [][]impl.Op{nil, {}, lit(1), append(lit(1), lit(1)...), col(0), col(1), col(2), col(3), col(-1), ex(op(9, 0)), ex(op(0, 0))} {
				p := clonePlan(plain)
				p.Nodes[i].Ex = x
				right += agree(t, p, db)
				p = clonePlan(plain)
				p.Nodes[i].Exs = append(p.Nodes[i].Exs, x)
				right += agree(t, p, db)
			}
		}
	}
	if right < 100 {
		t.Errorf("only %d valid plans", right)
	}
}

// agree asks that PlanOk says what it has to say; it gives 1 when the plan is valid.
func agree(t *testing.T, p impl.Plan, db impl.Db) int {
	t.Helper()
	width, valid := planWant(p, db)
	got, ok := impl.PlanOk(p, db)
	if got != width || ok != valid {
		t.Errorf("PlanOk %d %v, not %d %v: %v", got, ok, width, valid, p.Nodes)
	}
	if rows, ran := impl.EvalPlan(p, db); ran && !valid || !ran && len(rows) != 0 || (impl.PlanWork(p, db) == -1) == valid {
		t.Errorf("a plan that is valid (%v) has work %d and rows %v", valid, impl.PlanWork(p, db), rows)
	}
	if valid {
		return 1
	}
	return 0
}

// Promise 8, a field that is not used must be 0 or empty: each field that each kind does not use.
func TestPlanOkUnusedFields(t *testing.T) {
	uses := []string{"", "T", "EL", "XL", "LR", "LR", "ELR", "MELR", "L", "LR", "MLR"}
	set := map[rune]func(n *impl.PNode){
		'T': func(n *impl.PNode) { n.T = 1 },
		'M': func(n *impl.PNode) { n.M = 1 },
		'E': func(n *impl.PNode) { n.Ex = lit(1) },
		'X': func(n *impl.PNode) { n.Exs = [][]impl.Op{lit(1)} },
		'L': func(n *impl.PNode) { n.L = 1 },
		'R': func(n *impl.PNode) { n.R = 1 },
	}
	for i, o := range kindsOfPlans() {
		for field, put := range set {
			used := false
			for _, c := range uses[i] {
				used = used || c == field
			}
			if used {
				continue
			}
			p := pMap(o, lit(1)).plan()
			put(&p.Nodes[len(p.Nodes)-2])
			wantNoPlan(t, "field "+string(field), p, smallDb())
		}
	}
	for _, o := range []oper{pSelect(lit(1), pUnit()), pMap(pUnit()), pDistinct(pUnit())} {
		// Places that would be right, were R used there.
		p := impl.Plan{Nodes: []impl.PNode{{K: impl.PUnit}, {K: impl.PUnit}, o.n}}
		p.Nodes[2].L, p.Nodes[2].R = 0, 1
		wantNoPlan(t, "two kids where one is used", p, smallDb())
	}
}

// Promise 8, the order of the nodes.
func TestPlanOkOrder(t *testing.T) {
	db := smallDb()
	scan := impl.PNode{K: impl.PScan, T: 1}
	two := func(l int, r int) impl.PNode { return impl.PNode{K: impl.PCross, L: l, R: r} }
	one := func(l int) impl.PNode { return impl.PNode{K: impl.PDistinct, L: l} }
	list := func(nodes ...impl.PNode) impl.Plan { return impl.Plan{Nodes: nodes} }
	for what, p := range map[string]impl.Plan{
		"no nodes":                     list(),
		"one root too many":            list(scan, scan),
		"a node that nobody uses":      list(scan, scan, one(1)),
		"a node in front of a pair":    list(scan, scan, scan, two(1, 2)),
		"kids in the other order":      list(scan, scan, two(1, 0)),
		"one kid used twice":           list(scan, two(0, 0)),
		"the last of two used twice":   list(scan, scan, two(1, 1)),
		"a kid that is the node":       list(scan, one(1)),
		"kids that are the node":       list(two(0, 0)),
		"a kid behind the node":        list(one(1), scan),
		"the root in front":            list(two(1, 2), scan, scan),
		"no kid at all":                list(one(0)),
		"a kid in front of the list":   list(one(-1)),
		"kids in front of the list":    list(two(-2, -1)),
		"no left kid":                  list(scan, two(-1, 0)),
		"a left kid inside the right":  list(scan, scan, one(1), two(1, 2)),
		"right kid not next to it":     list(scan, scan, scan, two(0, 1)),
		"a kid shared by two parents":  list(scan, one(0), two(0, 1)),
		"a kid used a level too high":  list(scan, one(0), one(0)),
		"a leaf behind the root's kid": list(scan, one(0), scan, one(1)),
		"kids first but L behind R":    list(scan, scan, one(1), two(2, 1)),
	} {
		wantNoPlan(t, what, p, db)
	}
	for _, p := range []impl.Plan{
		list(scan, one(0)),
		list(scan, scan, two(0, 1)),
		list(scan, scan, one(1), two(0, 2)),
		list(scan, one(0), scan, two(1, 2)),
		list(scan, scan, two(0, 1), scan, two(2, 3)),
		list(scan, scan, scan, two(1, 2), two(0, 3)),
	} {
		if agree(t, p, db) != 1 {
			t.Errorf("a good order is not valid: %v", p.Nodes)
		}
	}
}

// Promise 8, all orders of a plan of five nodes: only one is right.
func TestPlanOkPermutations(t *testing.T) {
	good := pTwo(impl.PDep, pDistinct(pScan(1)), pSelect(is(col(0), impl.EqOp, col(1)), pScan(1))).plan()
	valid := 0
	var permute func(order []int)
	permute = func(order []int) {
		if len(order) == len(good.Nodes) {
			place := make([]int, len(order))
			for i, from := range order {
				place[from] = i
			}
			p := impl.Plan{}
			for _, from := range order {
				n := good.Nodes[from]
				if n.K != impl.PScan {
					n.L = place[n.L]
				}
				if n.K == impl.PDep {
					n.R = place[n.R]
				}
				p.Nodes = append(p.Nodes, n)
			}
			valid += agree(t, p, smallDb())
			return
		}
		for i := range good.Nodes {
			if !has(order, i) {
				permute(append(append([]int{}, order...), i))
			}
		}
	}
	permute(nil)
	if valid != 1 {
		t.Errorf("%d orders are valid", valid)
	}
}

// Promise 8, tables, aggregates and unions.
func TestPlanOkTables(t *testing.T) {
	db := smallDb()
	for _, table := range []int{math.MinInt, -1, 3, 4, 1 << 32, math.MaxInt} {
		wantNoPlan(t, "no such table", pScan(table).plan(), db)
		wantNoPlan(t, "no such table below", pDistinct(pScan(table)).plan(), db)
	}
	wantNoPlan(t, "no table at all", pScan(0).plan(), impl.Db{})
	for _, m := range []int{math.MinInt, -1, 0, 5, 6, math.MaxInt} {
		wantNoPlan(t, "no such aggregate", pAgg(m, lit(1), pScan(0), pScan(1)).plan(), db)
		wantNoPlan(t, "no such aggregate", pAgg(m, nil, pScan(0), pScan(1)).plan(), db)
	}
	wantNoPlan(t, "an expression to count rows", pAgg(1, lit(1), pScan(0), pScan(1)).plan(), db)
	for m := 2; m <= 4; m++ {
		wantPlan(t, "aggregate", pAgg(m, lit(1), pScan(0), pScan(1)), db)
		wantNoPlan(t, "no expression", pAgg(m, nil, pScan(0), pScan(1)).plan(), db)
	}
	wantNoPlan(t, "a union of 2 and 1", pTwo(impl.PUnion, pScan(0), pScan(1)).plan(), db)
	wantNoPlan(t, "a union of 1 and 2", pTwo(impl.PUnion, pScan(1), pScan(0)).plan(), db)
	wantNoPlan(t, "a union of 0 and 1", pTwo(impl.PUnion, pUnit(), pScan(1)).plan(), db)
	wantPlan(t, "a union of 0 and 0", pTwo(impl.PUnion, pUnit(), pUnit()), db)
	wantPlan(t, "a union of 2 and 2", pTwo(impl.PUnion, pScan(0), pTwo(impl.PCross, pScan(1), pScan(1))), db)
}

// Promise 8, a Db that is not valid under a plan that is.
func TestPlanOkWrongDb(t *testing.T) {
	for what, spoil := range wrongDbs() {
		for _, o := range kindsOfPlans() {
			db := smallDb()
			spoil(&db)
			wantNoPlan(t, what, o.plan(), db)
		}
	}
}

// tower puts that many operators over one that is at the bottom.
func tower(bottom oper, many int, next func(o oper) oper) oper {
	for range many {
		bottom = next(bottom)
	}
	return bottom
}

// Promise 8, the number of nodes.
func TestPlanOkNodes(t *testing.T) {
	db := smallDb()
	steps := map[string]func(o oper) oper{
		"select":   func(o oper) oper { return pSelect(col(0), o) },
		"map":      func(o oper) oper { return pMap(o, col(0)) },
		"distinct": pDistinct,
	}
	for what, step := range steps {
		for _, size := range []int{impl.MaxPlan - 1, impl.MaxPlan} {
			o := tower(pScan(1), size-1, step)
			if len(o.plan().Nodes) != size {
				t.Fatalf("%s: %d nodes", what, len(o.plan().Nodes))
			}
			width, ok := impl.PlanOk(o.plan(), db)
			if !ok || width != 1 || impl.PlanWork(o.plan(), db) != 5 {
				t.Errorf("%s of %d nodes: %d %v", what, size, width, ok)
			}
			if _, ok := impl.EvalPlan(o.plan(), db); !ok {
				t.Errorf("%s of %d nodes does not run", what, size)
			}
		}
		wantNoPlan(t, what, tower(pScan(1), impl.MaxPlan, step).plan(), db)
	}
	pairs := func(kind int) oper {
		return tower(pUnit(), impl.MaxPlan/2-1, func(o oper) oper { return pTwo(kind, pUnit(), o) })
	}
	for _, kind := range []int{impl.PCross, impl.PDep, impl.PUnion} {
		for more, want := range []bool{true, true, false} {
			p := tower(pairs(kind), more, pDistinct).plan()
			if width, ok := impl.PlanOk(p, db); ok != want || width != 0 {
				t.Errorf("kind %d, %d nodes: %d %v", kind, len(p.Nodes), width, ok)
			}
		}
	}
}

// wideDb has tables of 16, 8 and 1 columns, with one row each.
func wideDb() impl.Db {
	return impl.Db{Tables: []impl.Table{
		tableOf("a", 16, make([]impl.Val, 16)), tableOf("b", 8, make([]impl.Val, 8)), tableOf("c", 1, make([]impl.Val, 1)),
	}}
}

// wide makes an operator of a width by products.
func wide(width int, kind int) oper {
	out := pUnit()
	for i, cols := range []int{16, 8, 1} {
		for width >= cols {
			out = pTwo(kind, out, pScan(i))
			width -= cols
		}
	}
	return out
}

// Promise 8, a width with its environment of exactly MaxWidth and of one more, wherever it may come from.
func TestPlanOkMaxWidth(t *testing.T) {
	db := wideDb()
	for _, kind := range []int{impl.PCross, impl.PDep} {
		for _, size := range []int{1, 2, 100, 198, 199, 200} {
			left := wide(size, kind)
			rest := wide(impl.MaxWidth-size, kind)
			wantPlan(t, "product", pTwo(kind, left, rest), db)
			wantNoPlan(t, "product", pTwo(kind, left, wide(impl.MaxWidth-size+1, kind)).plan(), db)
			last := col(impl.MaxWidth - 1)
			over := col(impl.MaxWidth)
			if size < impl.MaxWidth {
				wantPlan(t, "mark", pMark(last, left, rest), db)
				wantPlan(t, "count", pCount(left, rest), db)
				wantPlan(t, "least", pAgg(3, last, left, rest), db)
			}
			wantNoPlan(t, "mark", pMark(over, left, rest).plan(), db)
			wantNoPlan(t, "most", pAgg(4, over, left, rest).plan(), db)
			// The right side is too wide in its environment, though what comes out of it is not.
			wantNoPlan(t, "mark", pMark(lit(1), left, wide(impl.MaxWidth-size+1, kind)).plan(), db)
			wantNoPlan(t, "count", pCount(left, wide(impl.MaxWidth-size+1, kind)).plan(), db)
			wantNoPlan(t, "map inside", pTwo(impl.PDep, left, pMap(wide(impl.MaxWidth-size+1, kind))).plan(), db)
			// A product is no environment: each side of it has the whole width for itself.
			wantPlan(t, "map inside a product", pTwo(impl.PCross, pMap(left), pMap(wide(impl.MaxWidth, kind))), db)
		}
		wantNoPlan(t, "mark behind a full row", pMark(lit(1), wide(impl.MaxWidth, kind), pUnit()).plan(), db)
		wantNoPlan(t, "count behind a full row", pCount(wide(impl.MaxWidth, kind), pUnit()).plan(), db)
		wantPlan(t, "a full row", pSelect(col(impl.MaxWidth-1), wide(impl.MaxWidth, kind)), db)
		wantPlan(t, "a full row", pTwo(impl.PUnion, wide(impl.MaxWidth, kind), wide(impl.MaxWidth, kind)), db)
	}
	many := func(size int) [][]impl.Op {
		var out [][]impl.Op
		for range size {
			out = append(out, lit(7))
		}
		return out
	}
	wantPlan(t, "map", pMap(pUnit(), many(impl.MaxWidth)...), db)
	wantNoPlan(t, "map", pMap(pUnit(), many(impl.MaxWidth+1)...).plan(), db)
	wantPlan(t, "map in an environment", pTwo(impl.PDep, pScan(0), pMap(pUnit(), many(impl.MaxWidth-16)...)), db)
	wantNoPlan(t, "map in an environment", pTwo(impl.PDep, pScan(0), pMap(pUnit(), many(impl.MaxWidth-15)...)).plan(), db)
	wantNoPlan(t, "union in an environment", pMark(lit(1), pScan(0), pTwo(impl.PUnion, wide(185, impl.PCross), wide(185, impl.PCross))).plan(), db)
	wantPlan(t, "union in an environment", pMark(lit(1), pScan(0), pTwo(impl.PUnion, wide(184, impl.PCross), wide(184, impl.PCross))), db)
	wantNoPlan(t, "distinct in an environment", pMark(lit(1), pScan(0), pDistinct(wide(185, impl.PCross))).plan(), db)
}

// Promise 8, which columns each expression sees: one below the width, and the width itself.
func TestPlanOkColumns(t *testing.T) {
	db := smallDb()
	type made func(x []impl.Op) oper
	cases := map[string]struct {
		width int64
		plan  made
	}{
		"select":         {2, func(x []impl.Op) oper { return pSelect(x, pScan(0)) }},
		"map":            {2, func(x []impl.Op) oper { return pMap(pScan(0), lit(1), x) }},
		"mark":           {3, func(x []impl.Op) oper { return pMark(x, pScan(0), pScan(1)) }},
		"agg":            {3, func(x []impl.Op) oper { return pAgg(2, x, pScan(0), pScan(1)) }},
		"over a mark":    {3, func(x []impl.Op) oper { return pSelect(x, pMark(lit(1), pScan(0), pScan(1))) }},
		"over an agg":    {3, func(x []impl.Op) oper { return pSelect(x, pCount(pScan(0), pScan(0))) }},
		"over a map":     {1, func(x []impl.Op) oper { return pSelect(x, pMap(pScan(0), col(1))) }},
		"over a union":   {1, func(x []impl.Op) oper { return pMap(pTwo(impl.PUnion, pScan(1), pScan(2)), x) }},
		"over distinct":  {2, func(x []impl.Op) oper { return pSelect(x, pDistinct(pScan(0))) }},
		"over a product": {3, func(x []impl.Op) oper { return pSelect(x, pTwo(impl.PCross, pScan(0), pScan(1))) }},
		"cross left":     {2, func(x []impl.Op) oper { return pTwo(impl.PCross, pSelect(x, pScan(0)), pScan(1)) }},
		"cross right":    {1, func(x []impl.Op) oper { return pTwo(impl.PCross, pScan(0), pSelect(x, pScan(1))) }},
		"union right":    {1, func(x []impl.Op) oper { return pTwo(impl.PUnion, pScan(2), pSelect(x, pScan(1))) }},
		"dep left":       {2, func(x []impl.Op) oper { return pTwo(impl.PDep, pSelect(x, pScan(0)), pScan(1)) }},
		"dep right":      {3, func(x []impl.Op) oper { return pTwo(impl.PDep, pScan(0), pSelect(x, pScan(1))) }},
		"mark left":      {2, func(x []impl.Op) oper { return pMark(lit(1), pSelect(x, pScan(0)), pScan(1)) }},
		"mark right":     {3, func(x []impl.Op) oper { return pMark(lit(1), pScan(0), pSelect(x, pScan(1))) }},
		"agg left":       {2, func(x []impl.Op) oper { return pCount(pSelect(x, pScan(0)), pScan(1)) }},
		"agg right":      {3, func(x []impl.Op) oper { return pCount(pScan(0), pSelect(x, pScan(1))) }},
		"unit in dep":    {2, func(x []impl.Op) oper { return pTwo(impl.PDep, pScan(0), pMap(pUnit(), x)) }},
		"dep in dep": {4, func(x []impl.Op) oper {
			return pTwo(impl.PDep, pScan(0), pTwo(impl.PDep, pScan(1), pSelect(x, pScan(2))))
		}},
		"cross in dep": {3, func(x []impl.Op) oper {
			return pTwo(impl.PDep, pScan(0), pTwo(impl.PCross, pScan(1), pSelect(x, pScan(2))))
		}},
		"mark in mark": {4, func(x []impl.Op) oper { return pMark(lit(1), pScan(0), pMark(x, pScan(1), pScan(2))) }},
		"agg in mark":  {5, func(x []impl.Op) oper { return pMark(lit(1), pScan(0), pAgg(4, x, pScan(1), pScan(0))) }},
		"mark of agg":  {4, func(x []impl.Op) oper { return pMark(x, pScan(0), pCount(pScan(1), pScan(0))) }},
	}
	for what, c := range cases {
		wantPlan(t, what, c.plan(col(c.width-1)), db)
		wantPlan(t, what, c.plan(col(0)), db)
		for _, n := range []int64{c.width, c.width + 1, -1, math.MaxInt64, math.MinInt64} {
			wantNoPlan(t, what, c.plan(col(n)).plan(), db)
		}
		wantNoPlan(t, what, c.plan(nil).plan(), db)
		wantNoPlan(t, what, c.plan(ex(op(impl.XInt, 1), op(impl.XInt, 1))).plan(), db)
		wantNoPlan(t, what, c.plan(ex(op(impl.XAnd, 0))).plan(), db)
		wantNoPlan(t, what, c.plan(ex(op(impl.XNull, 1))).plan(), db)
		wantPlan(t, what, c.plan(longEx(impl.MaxEx)), db)
		wantNoPlan(t, what, c.plan(longEx(impl.MaxEx+1)).plan(), db)
	}
}

// Promise 8 at plans made by chance, and at the same plans with one thing changed.
func TestPlanOkByChance(t *testing.T) {
	r := rand.New(rand.NewSource(32))
	valid, wrong := 0, 0
	for range 6000 {
		g := planner{r: r, db: chanceDb(r)}
		p := g.plan(0, 1+r.Intn(4)).plan()
		if agree(t, p, g.db) != 1 {
			t.Fatalf("a plan that should be valid: %v", p.Nodes)
		}
		for range 3 {
			bad := clonePlan(p)
			spoil(r, &bad)
			valid += agree(t, bad, g.db)
			wrong++
		}
	}
	if wrong -= valid; valid < 1000 || wrong < 1000 {
		t.Errorf("%d valid, %d wrong", valid, wrong)
	}
}

// spoil changes one thing of a plan, by chance.
func spoil(r *rand.Rand, p *impl.Plan) {
	i := r.Intn(len(p.Nodes))
	n := &p.Nodes[i]
	small := r.Intn(5) - 1
	switch r.Intn(9) {
	case 0:
		n.K = r.Intn(12)
	case 1:
		n.T = small
	case 2:
		n.M = small
	case 3:
		n.L += r.Intn(3) - 1
	case 4:
		n.R += r.Intn(3) - 1
	case 5:
		if len(n.Ex) > 0 {
			n.Ex[r.Intn(len(n.Ex))].N = int64(small)
		}
	case 6:
		if len(n.Exs) > 0 {
			x := n.Exs[r.Intn(len(n.Exs))]
			x[r.Intn(len(x))].N = int64(small)
		}
	case 7:
		j := r.Intn(len(p.Nodes))
		p.Nodes[i], p.Nodes[j] = p.Nodes[j], p.Nodes[i]
	case 8:
		if len(n.Ex) > 0 {
			n.Ex = n.Ex[:len(n.Ex)-1]
		} else {
			p.Nodes = append(p.Nodes[:i], p.Nodes[i+1:]...)
		}
	}
}
