package tests

import (
	"math/rand"
	"reflect"
	"strconv"
	"testing"

	"loop.example/s0035/impl"
)

// sizeDb has a table for each of the sizes, of one column.
func sizeDb(sizes ...int) impl.Db {
	db := impl.Db{}
	for i, size := range sizes {
		db.Tables = append(db.Tables, bigTable("t"+strconv.Itoa(i), size))
	}
	return db
}

func wantWork(t *testing.T, what string, o oper, db impl.Db, want int) {
	t.Helper()
	if got := impl.PlanWork(o.plan(), db); got != want || workWant(o, db) != want {
		t.Errorf("%s: PlanWork %d, not %d", what, got, want)
	}
	rows, ok := impl.EvalPlan(o.plan(), db)
	if ok != (want <= impl.MaxWork) || !ok && len(rows) != 0 || len(rows) > want {
		t.Errorf("%s: work %d, EvalPlan says %v with %d rows", what, want, ok, len(rows))
	}
}

// Promise 9, PlanWork of each kind.
func TestPlanWorkKinds(t *testing.T) {
	db := sizeDb(0, 1, 3, 5, 7)
	none, one, three, five, seven := pScan(0), pScan(1), pScan(2), pScan(3), pScan(4)
	no := lit(0)
	wantWork(t, "unit", pUnit(), db, 1)
	wantWork(t, "scan of nothing", none, db, 0)
	wantWork(t, "scan of one", one, db, 1)
	wantWork(t, "scan", five, db, 5)
	wantWork(t, "select", pSelect(no, five), db, 5)
	wantWork(t, "map", pMap(five), db, 5)
	wantWork(t, "distinct", pDistinct(pMap(five, lit(1))), db, 5)
	wantWork(t, "cross", pTwo(impl.PCross, three, five), db, 15)
	wantWork(t, "dep", pTwo(impl.PDep, three, five), db, 15)
	wantWork(t, "union", pTwo(impl.PUnion, three, five), db, 8)
	wantWork(t, "mark", pMark(no, three, five), db, 15)
	wantWork(t, "mark of few", pMark(no, seven, one), db, 7)
	wantWork(t, "count", pCount(three, five), db, 15)
	wantWork(t, "cross with nothing", pTwo(impl.PCross, five, none), db, 5)
	wantWork(t, "nothing cross", pTwo(impl.PCross, none, five), db, 5)
	wantWork(t, "dep with nothing", pTwo(impl.PDep, five, none), db, 5)
	wantWork(t, "nothing dep", pTwo(impl.PDep, none, five), db, 0)
	wantWork(t, "mark of nothing", pMark(no, none, five), db, 0)
	wantWork(t, "mark in dep", pTwo(impl.PDep, three, pMark(no, five, seven)), db, 105)
	wantWork(t, "mark in cross", pTwo(impl.PCross, three, pMark(no, five, seven)), db, 35)
	wantWork(t, "mark in union", pTwo(impl.PUnion, three, pMark(no, pMap(five), seven)), db, 35)
	wantWork(t, "mark over dep", pMark(no, pTwo(impl.PDep, three, five), seven), db, 105)
	wantWork(t, "mark under mark", pMark(no, pMark(no, three, five), seven), db, 21)
	wantWork(t, "mark in mark", pMark(no, three, pMark(no, five, seven)), db, 105)
	wantWork(t, "mark in left of cross", pTwo(impl.PCross, pCount(five, seven), three), db, 35)
	wantWork(t, "cross in mark", pMark(no, three, pTwo(impl.PCross, five, seven)), db, 105)
	wantWork(t, "select of all", pTwo(impl.PCross, pSelect(no, three), pSelect(no, five)), db, 15)
}

// Promise 9, work of exactly MaxWork and of one more, from each place where it may be made.
func TestPlanWorkLimit(t *testing.T) {
	db := sizeDb(40, 50, 1, 0, 400)
	forty, fifty, one, none, big := pScan(0), pScan(1), pScan(2), pScan(3), pScan(4)
	no := lit(0)
	const most = impl.MaxWork
	two := func(l oper, r oper) map[string]oper {
		return map[string]oper{
			"cross": pTwo(impl.PCross, l, r), "dep": pTwo(impl.PDep, l, r), "mark": pMark(no, l, r), "count": pCount(l, r),
			"least": pAgg(3, no, l, r),
		}
	}
	more := pMap(pTwo(impl.PUnion, fifty, one), no)
	for what, o := range two(forty, fifty) {
		wantWork(t, what, o, db, most)
	}
	for what, o := range two(fifty, forty) {
		wantWork(t, what, o, db, most)
	}
	for what, o := range two(forty, more) {
		wantWork(t, what, o, db, most+1)
	}
	for what, o := range two(more, forty) {
		wantWork(t, what, o, db, most+1)
	}
	five := tower(big, 4, func(o oper) oper { return pTwo(impl.PUnion, o, big) })
	wantWork(t, "union", five, db, most)
	wantWork(t, "union and one", pTwo(impl.PUnion, five, one), db, most+1)
	wantWork(t, "one and union", pTwo(impl.PUnion, one, five), db, most+1)
	wantWork(t, "union and none", pTwo(impl.PUnion, five, none), db, most)
	wantWork(t, "two deep", pTwo(impl.PDep, forty, pTwo(impl.PDep, one, fifty)), db, most)
	wantWork(t, "two deep", pMark(no, forty, pMark(no, one, fifty)), db, most)
	wantWork(t, "two deep", pMark(no, forty, pMark(no, fifty, pTwo(impl.PUnion, one, one))), db, most+1)
	wantWork(t, "two deep", pMark(no, forty, pMark(no, fifty, none)), db, most)
	wantWork(t, "by the calls alone", pCount(pTwo(impl.PCross, forty, fifty), pUnit()), db, most)
}

// Promise 9, sizes beyond 64 bits are cut off on the way, and a 0 makes all of them 0 again.
func TestPlanWorkCutOff(t *testing.T) {
	db := sizeDb(100, 1, 0)
	const most = impl.MaxWork
	for _, kind := range []int{impl.PCross, impl.PDep} {
		huge := tower(pScan(0), 150, func(o oper) oper { return pTwo(kind, o, pScan(0)) })
		right := tower(pScan(0), 150, func(o oper) oper { return pTwo(kind, pScan(0), o) })
		for _, o := range []oper{huge, right} {
			wantWork(t, "huge", o, db, most+1)
			wantWork(t, "huge times none", pTwo(impl.PCross, o, pScan(2)), db, most+1)
			wantWork(t, "none times huge", pTwo(impl.PCross, pScan(2), o), db, most+1)
			wantWork(t, "huge and then none", pTwo(impl.PDep, o, pScan(2)), db, most+1)
			// Under a left side without rows nothing is ever run.
			wantWork(t, "none and then huge", pTwo(impl.PDep, pScan(2), o), db, 0)
			wantWork(t, "a mark over none", pMark(lit(1), pScan(2), o), db, 0)
			wantWork(t, "a count over none", pCount(pScan(2), o), db, 0)
			wantWork(t, "one and then huge", pCount(pScan(1), o), db, most+1)
			wantWork(t, "huge beside none", pTwo(impl.PUnion, pMap(o), pMap(pScan(2))), db, most+1)
			wantWork(t, "huge under a mark of none", pMark(lit(1), pScan(1), pTwo(impl.PDep, pScan(2), o)), db, 1)
		}
	}
	calls := tower(pScan(0), 60, func(o oper) oper { return pMark(lit(1), pScan(0), o) })
	wantWork(t, "calls of calls", calls, db, most+1)
	sums := tower(pScan(0), 900, func(o oper) oper { return pTwo(impl.PUnion, o, pScan(0)) })
	wantWork(t, "sums", sums, db, most+1)
	half := tower(pMap(sums), 5, func(o oper) oper { return pTwo(impl.PCross, o, pMap(pScan(0))) })
	wantWork(t, "products of sums", half, db, most+1)
}

func evalWant(t *testing.T, what string, o oper, db impl.Db, want ...[]impl.Val) {
	t.Helper()
	got, ok := impl.EvalPlan(o.plan(), db)
	if !ok {
		t.Errorf("%s does not run", what)
	}
	wantRows(t, what, got, want)
	wantPlan(t, what, o, db)
}

// Promise 9, each kind over small tables, with the rows written out.
func TestEvalPlanKinds(t *testing.T) {
	db := smallDb()
	n := null()
	evalWant(t, "unit", pUnit(), db, row())
	evalWant(t, "scan", pScan(0), db, row(num(1), n), nums(1, 1), nums(1, 1), row(num(2), n), nums(2, 3))
	evalWant(t, "scan of nothing", pScan(2), db)
	evalWant(t, "select", pSelect(is(col(1), impl.GeOp, col(0)), pScan(0)), db, nums(1, 1), nums(1, 1), nums(2, 3))
	evalWant(t, "select with numbers as truth", pSelect(col(0), pScan(1)), db, nums(1), nums(3), nums(3))
	evalWant(t, "select of unknown", pSelect(ex(op(impl.XNull, 0)), pScan(1)), db)
	evalWant(t, "select with -2 as truth", pSelect(lit(-2), pScan(1)), db, row(n), row(n), nums(1), nums(3), nums(3))
	evalWant(t, "map", pMap(pScan(0), col(1), lit(9), col(0)), db,
		row(n, num(9), num(1)), row(n, num(9), num(2)), nums(1, 9, 1), nums(1, 9, 1), nums(3, 9, 2))
	evalWant(t, "map to nothing", pMap(pScan(1)), db, row(), row(), row(), row(), row())
	evalWant(t, "map to one", pMap(pScan(1), lit(2)), db, nums(2), nums(2), nums(2), nums(2), nums(2))
	two := pMap(pTwo(impl.PUnion, pUnit(), pUnit()), lit(4))
	evalWant(t, "cross", pTwo(impl.PCross, two, pScan(1)), db, row(num(4), n), row(num(4), n), row(num(4), n), row(num(4), n),
		nums(4, 1), nums(4, 1), nums(4, 3), nums(4, 3), nums(4, 3), nums(4, 3))
	evalWant(t, "cross with nothing", pTwo(impl.PCross, pScan(1), pScan(2)), db)
	evalWant(t, "nothing cross", pTwo(impl.PCross, pScan(2), pScan(1)), db)
	evalWant(t, "dep", pTwo(impl.PDep, pScan(0), pSelect(is(col(2), impl.EqOp, col(1)), pScan(1))), db,
		nums(1, 1, 1), nums(1, 1, 1), nums(2, 3, 3), nums(2, 3, 3))
	evalWant(t, "distinct", pDistinct(pScan(0)), db, row(num(1), n), nums(1, 1), row(num(2), n), nums(2, 3))
	evalWant(t, "distinct of one column", pDistinct(pScan(1)), db, row(n), nums(1), nums(3))
	evalWant(t, "distinct of no column", pDistinct(pMap(pScan(1))), db, row())
	evalWant(t, "distinct of nothing", pDistinct(pMap(pScan(2))), db)
	evalWant(t, "union", pTwo(impl.PUnion, pScan(1), pMap(pScan(0), col(0))), db,
		row(n), row(n), nums(1), nums(1), nums(1), nums(1), nums(2), nums(2), nums(3), nums(3))
	evalWant(t, "union of nothing", pTwo(impl.PUnion, pScan(2), pScan(2)), db)
}

// Promise 9, marks: over no rows, and over each mixture of values.
func TestEvalPlanMarks(t *testing.T) {
	n := null()
	values := [][]impl.Val{{}, nums(0), nums(5), row(n), nums(0, 0), nums(0, -1), row(num(0), n), row(n, num(2)), row(num(2), n), row(n, n, num(0))}
	want := []impl.Val{num(0), num(0), num(1), n, num(0), num(1), n, num(1), num(1), n}
	for i, vals := range values {
		table := tableOf("v", 1)
		for _, v := range vals {
			table.Rows = append(table.Rows, row(v))
		}
		db := impl.Db{Tables: []impl.Table{table, tableOf("two", 1, nums(8), nums(9))}}
		evalWant(t, "mark", pMark(col(0), pUnit(), pScan(0)), db, row(want[i]))
		evalWant(t, "marks", pMark(col(1), pScan(1), pScan(0)), db, row(num(8), want[i]), row(num(9), want[i]))
		evalWant(t, "mark of a right side that hangs on the left", pMark(col(1), pScan(1), pSelect(is(col(0), impl.EqOp, lit(9)), pScan(0))), db,
			nums(8, 0), row(num(9), want[i]))
	}
}

// Promise 9, aggregates: over no rows, over NULLs alone, over both, and over numbers.
func TestEvalPlanAggregates(t *testing.T) {
	n := null()
	cases := []struct {
		vals []impl.Val
		want []impl.Val
	}{
		{nil, row(num(0), num(0), n, n)},
		{row(n), row(num(1), num(0), n, n)},
		{row(n, oddNull(5), oddNull(-5)), row(num(3), num(0), n, n)},
		{nums(4), nums(1, 1, 4, 4)},
		{nums(0), nums(1, 1, 0, 0)},
		{nums(0, 0), nums(2, 2, 0, 0)},
		{row(n, num(4), oddNull(9), oddNull(-9)), nums(4, 1, 4, 4)},
		{row(num(4), n, num(-2), num(4)), nums(4, 3, -2, 4)},
		{nums(1, 2, 3), nums(3, 3, 1, 3)},
		{nums(3, 2, 1), nums(3, 3, 1, 3)},
		{nums(-1, -2, -3), nums(3, 3, -3, -1)},
		{nums(-1<<63, 1<<63-1), nums(2, 2, -1<<63, 1<<63-1)},
		{nums(1<<63-1, -1<<63), nums(2, 2, -1<<63, 1<<63-1)},
	}
	for _, c := range cases {
		table := tableOf("v", 1)
		for _, v := range c.vals {
			table.Rows = append(table.Rows, row(v))
		}
		db := impl.Db{Tables: []impl.Table{table, tableOf("two", 1, nums(7), nums(7))}}
		for m := 1; m <= 4; m++ {
			at := func(x []impl.Op) []impl.Op {
				if m == 1 {
					return nil
				}
				return x
			}
			evalWant(t, "aggregate", pAgg(m, at(col(0)), pUnit(), pScan(0)), db, row(c.want[m-1]))
			evalWant(t, "two aggregates", pAgg(m, at(col(1)), pScan(1), pScan(0)), db, row(num(7), c.want[m-1]), row(num(7), c.want[m-1]))
			evalWant(t, "aggregate of nothing", pAgg(m, at(col(0)), pUnit(), pSelect(lit(0), pScan(0))), db, row(aggWant(m, 0, nil)))
			evalWant(t, "no aggregate", pAgg(m, at(lit(1)), pSelect(lit(0), pScan(1)), pScan(0)), db)
		}
	}
}

// Promise 9, the environments: which rows each side sees.
func TestEvalPlanEnvironments(t *testing.T) {
	db := impl.Db{Tables: []impl.Table{tableOf("a", 1, nums(1), nums(2)), tableOf("b", 1, nums(10), nums(20))}}
	a, b := pScan(0), pScan(1)
	seen := func(width int64, l oper) oper {
		var xs [][]impl.Op
		for c := range width {
			xs = append(xs, col(c))
		}
		return pMap(l, xs...)
	}
	evalWant(t, "what R of PDep sees", pTwo(impl.PDep, a, seen(2, b)), db,
		nums(1, 1, 10), nums(1, 1, 20), nums(2, 2, 10), nums(2, 2, 20))
	evalWant(t, "what both sides of PCross see in R of PDep", pTwo(impl.PDep, a, pTwo(impl.PCross, seen(2, b), seen(2, pSelect(is(col(0), impl.EqOp, lit(2)), b)))), db,
		nums(2, 2, 10, 2, 10), nums(2, 2, 10, 2, 20), nums(2, 2, 20, 2, 10), nums(2, 2, 20, 2, 20))
	evalWant(t, "what L of PDep sees in R of PDep", pTwo(impl.PDep, a, pTwo(impl.PDep, seen(1, pUnit()), seen(3, b))), db,
		nums(1, 1, 1, 1, 10), nums(1, 1, 1, 1, 20), nums(2, 2, 2, 2, 10), nums(2, 2, 2, 2, 20))
	evalWant(t, "what both sides of PUnion see in R of PDep", pTwo(impl.PDep, a, pTwo(impl.PUnion, seen(1, pUnit()), seen(1, pUnit()))), db,
		nums(1, 1), nums(1, 1), nums(2, 2), nums(2, 2))
	evalWant(t, "PDistinct in R of PDep", pTwo(impl.PDep, a, pDistinct(pTwo(impl.PUnion, seen(1, b), seen(1, b)))), db, nums(1, 1), nums(2, 2))
	last := is(col(1), impl.EqOp, lit(20))
	evalWant(t, "R of PMark in R of PMark", pMark(col(2), a, pMark(is(col(2), impl.EqOp, col(0)), pMap(b, is(col(1), impl.GtOp, lit(10))), a)), db, nums(1, 1), nums(2, 1))
	evalWant(t, "L of PAgg in R of PAgg", pAgg(4, col(2), a, pAgg(3, col(2), pSelect(last, b), seen(2, pUnit()))), db, nums(1, 1), nums(2, 2))
	evalWant(t, "sums of environments", pTwo(impl.PDep, a, pTwo(impl.PDep, b, pTwo(impl.PDep, a, seen(3, pUnit())))), db,
		nums(1, 10, 1, 1, 10, 1), nums(1, 10, 2, 1, 10, 2), nums(1, 20, 1, 1, 20, 1), nums(1, 20, 2, 1, 20, 2),
		nums(2, 10, 1, 2, 10, 1), nums(2, 10, 2, 2, 10, 2), nums(2, 20, 1, 2, 20, 1), nums(2, 20, 2, 2, 20, 2))
}

// Promise 9, every kind of operator under every other, on the left and on the right, and these once more below the
// right sides of PDep, PMark and PAgg inside one another.
func TestEvalPlanPairs(t *testing.T) {
	r := rand.New(rand.NewSource(33))
	for outer := impl.PSelect; outer <= impl.PUnion; outer++ {
		for inner := impl.PUnit; inner <= impl.PUnion; inner++ {
			for round := range 40 {
				g := planner{r: r, db: chanceDb(r)}
				leaf := func(env int) oper { return g.plan(env, 1) }
				in := func(env int) oper { return g.of(inner, env, 1, leaf, leaf) }
				pair := func(env int) oper {
					if round%2 == 0 {
						return g.of(outer, env, 2, in, leaf)
					}
					return g.of(outer, env, 2, leaf, in)
				}
				wantPlan(t, "a pair", pair(0), g.db)
				kinds := []int{impl.PDep, impl.PMark, impl.PAgg}
				scan := func(env int) oper { return pScan(0) }
				within := func(env int) oper { return g.of(kinds[r.Intn(3)], env, 3, scan, pair) }
				wantPlan(t, "a pair within", g.of(kinds[r.Intn(3)], 0, 4, scan, within), g.db)
			}
		}
	}
	kinds := []int{impl.PDep, impl.PMark, impl.PAgg}
	for i := range 27 {
		for range 60 {
			g := planner{r: r, db: chanceDb(r)}
			leaf := func(env int) oper { return g.plan(env, 1) }
			third := func(env int) oper { return g.of(kinds[i%3], env, 2, leaf, leaf) }
			second := func(env int) oper { return g.of(kinds[i/3%3], env, 3, leaf, third) }
			wantPlan(t, "three inside one another", g.of(kinds[i/9], 0, 4, leaf, second), g.db)
		}
	}
}

// Promise 9 at plans made by chance.
func TestEvalPlanByChance(t *testing.T) {
	r := rand.New(rand.NewSource(34))
	var came tally
	for range 20000 {
		g := planner{r: r, db: chanceDb(r)}
		o := g.plan(0, 1+r.Intn(5))
		wantPlan(t, "by chance", o, g.db)
		came.add(impl.EvalPlan(o.plan(), g.db))
	}
	came.want(t, 10000, 50, 2000)
}

// Promise 9, no node makes more than PlanWork rows: the right side of a product is not run for each row of the left
// one. If it were, these plans would go on for longer than anybody waits.
func TestEvalPlanKeepsToItsWork(t *testing.T) {
	db := sizeDb(1000)
	step := func(o oper) oper { return pCount(pUnit(), pTwo(impl.PCross, pScan(0), o)) }
	deep := tower(pUnit(), 30, step)
	wantWork(t, "products under counts", deep, db, 1000)
	rows, ok := impl.EvalPlan(deep.plan(), db)
	if !ok {
		t.Errorf("products under counts do not run")
	}
	wantRows(t, "products under counts", rows, [][]impl.Val{nums(1000)})
	double := tower(pUnit(), 30, func(o oper) oper {
		return pCount(pUnit(), pTwo(impl.PCross, pTwo(impl.PUnion, pUnit(), pUnit()), pDistinct(o)))
	})
	wantWork(t, "doubles under counts", double, db, 2)
}

// Promise 9, the longest plans and the widest rows with the most work.
func TestEvalPlanLargest(t *testing.T) {
	db := sizeDb(1000)
	wantLast := func(what string, o oper, rows int) {
		t.Helper()
		got, ok := impl.EvalPlan(o.plan(), db)
		if !ok || len(got) != rows {
			t.Errorf("%s: %v with %d rows, not %d", what, ok, len(got), rows)
		}
	}
	wantLast("selects", tower(pScan(0), impl.MaxPlan-1, func(o oper) oper { return pSelect(is(col(0), impl.GeOp, lit(1)), o) }), 999)
	wantLast("maps", tower(pScan(0), impl.MaxPlan-1, func(o oper) oper { return pMap(o, col(0)) }), 1000)
	wantLast("unions", tower(pUnit(), (impl.MaxPlan-1)/2, func(o oper) oper { return pTwo(impl.PUnion, pUnit(), o) }), 1000)
	wantLast("unions", tower(pUnit(), (impl.MaxPlan-1)/2, func(o oper) oper { return pTwo(impl.PUnion, o, pUnit()) }), 1000)
	wantLast("deps", tower(pScan(0), (impl.MaxPlan-1)/2, func(o oper) oper { return pTwo(impl.PDep, pUnit(), o) }), 1000)
	wantLast("products", tower(pScan(0), (impl.MaxPlan-1)/2, func(o oper) oper { return pTwo(impl.PCross, o, pUnit()) }), 1000)
	wantLast("marks", tower(pScan(0), impl.MaxWidth-1, func(o oper) oper { return pMark(lit(1), o, pUnit()) }), 1000)
}

// The general words: the rows of an answer are new memory, and so is the next answer.
func TestEvalPlanNewMemory(t *testing.T) {
	db := smallDb()
	plans := append(kindsOfPlans(),
		pTwo(impl.PUnion, pScan(0), pScan(0)),
		pTwo(impl.PCross, pScan(0), pUnit()),
		pTwo(impl.PCross, pUnit(), pScan(0)),
		pTwo(impl.PDep, pScan(0), pTwo(impl.PUnion, pUnit(), pUnit())),
		pTwo(impl.PCross, pScan(0), pTwo(impl.PUnion, pUnit(), pUnit())),
	)
	for i, o := range plans {
		p := o.plan()
		keepPlan, keepDb := clonePlan(p), cloneDb(db)
		first, _ := impl.EvalPlan(p, db)
		keep := cloneRows(first)
		second, _ := impl.EvalPlan(p, db)
		for k, r := range second {
			_ = append(r, num(1000))
			for c := range r {
				r[c] = num(int64(100*k + c))
			}
		}
		for k, r := range second {
			for c := range r {
				if r[c] != num(int64(100*k+c)) {
					t.Errorf("plan %d: row %d shares memory with another one", i, k)
				}
			}
		}
		if !reflect.DeepEqual(first, keep) {
			t.Errorf("plan %d: two answers share memory", i)
		}
		if !reflect.DeepEqual(p, keepPlan) || !sameDb(db, keepDb) {
			t.Errorf("plan %d: an answer shares memory with an argument", i)
		}
	}
}
