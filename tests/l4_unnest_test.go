package tests

import (
	"math/rand"
	"slices"
	"testing"

	"loop.example/s0035/impl"
)

// unnestWant is what Unnest has to give, done on the tree of the plan as the document says it.
func unnestWant(o oper, db impl.Db) impl.Flat {
	nodes := []impl.FNode{fUnit()}
	put := func(n impl.FNode) int {
		nodes = append(nodes, n)
		return len(nodes) - 1
	}
	var u func(o oper, d int, w int) int
	u = func(o oper, d int, w int) int {
		switch o.n.K {
		case impl.PUnit:
			return d
		case impl.PScan:
			return put(fJoin(0, d, put(fScan(o.n.T))))
		case impl.PSelect:
			return put(fSelect(o.n.Ex, u(*o.l, d, w)))
		case impl.PMap:
			var xs [][]impl.Op
			for c := range w {
				xs = append(xs, col(int64(c)))
			}
			return put(fMap(u(*o.l, d, w), append(xs, o.n.Exs...)...))
		case impl.PDistinct:
			return put(fDistinct(u(*o.l, d, w)))
		}
		a := u(*o.l, d, w)
		switch o.n.K {
		case impl.PCross:
			return put(fJoin(w, a, u(*o.r, d, w)))
		case impl.PUnion:
			return put(fUnion(a, u(*o.r, d, w)))
		}
		d2 := put(fDistinct(a))
		w2 := w + planner{db: db}.width(*o.l)
		b := u(*o.r, d2, w2)
		switch o.n.K {
		case impl.PDep:
			return put(fJoin(w2, a, b))
		case impl.PMark:
			return put(fMark(w2, o.n.Ex, a, b))
		}
		return put(fAgg(w2, o.n.M, o.n.Ex, a, b))
	}
	root := u(o, 0, 0)
	return cloneFlat(impl.Flat{Nodes: nodes, Root: root})
}

// wantUnnest asks for the exact list, that it is valid and not too long, for the same rows where the plan runs, and
// that the arguments stay.
func wantUnnest(t *testing.T, what string, o oper, db impl.Db) {
	t.Helper()
	p := o.plan()
	keepPlan, keepDb := clonePlan(p), cloneDb(db)
	f, ok := impl.Unnest(p, db)
	if !ok || !sameFlat(f, unnestWant(o, db)) {
		t.Errorf("%s: %v gives %v with %v\nwant %v", what, p.Nodes, ok, f, unnestWant(o, db))
		return
	}
	if !samePlan(p, keepPlan) || !sameDb(db, keepDb) {
		t.Errorf("%s: an argument has changed", what)
	}
	wantWidth, _ := impl.PlanOk(p, db)
	if width, ok := impl.FlatOk(f, db); !ok || width != wantWidth {
		t.Errorf("%s: the flat plan of %v: %d %v, not %d", what, p.Nodes, width, ok, wantWidth)
	}
	if len(f.Nodes) > 2*len(p.Nodes)+1 {
		t.Errorf("%s: %d nodes give %d", what, len(p.Nodes), len(f.Nodes))
	}
	if impl.PlanWork(p, db) > impl.MaxWork {
		return
	}
	rows, ran := impl.EvalFlat(f, db)
	want, _ := impl.EvalPlan(p, db)
	if !ran {
		t.Errorf("%s: the flat plan of %v does not run: %v", what, p.Nodes, f)
		return
	}
	wantRows(t, what, rows, want)
}

func wantNoUnnest(t *testing.T, what string, p impl.Plan, db impl.Db) {
	t.Helper()
	if f, ok := impl.Unnest(p, db); ok || !noFlat(f) {
		t.Errorf("%s: %v gives %v with %v", what, p.Nodes, f, ok)
	}
}

// Promise 11, the exact nodes for each kind of operator.
func TestUnnestKinds(t *testing.T) {
	db := smallDb()
	x, y := is(col(0), impl.LtOp, lit(3)), is(col(2), impl.EqOp, col(0))
	r := []impl.FNode{fUnit(), fScan(0), fJoin(0, 0, 1)}
	s := []impl.FNode{fUnit(), fScan(1), fJoin(0, 0, 1)}
	list := func(first []impl.FNode, more ...impl.FNode) impl.Flat {
		return flat(append(slices.Clone(first), more...)...)
	}
	under := []impl.FNode{fDistinct(2), fScan(1), fJoin(0, 3, 4)}
	cases := []struct {
		what string
		plan oper
		want impl.Flat
	}{
		{"unit", pUnit(), flat(fUnit())},
		{"scan", pScan(0), flat(r...)},
		{"scan of another table", pScan(1), flat(s...)},
		{"select", pSelect(x, pScan(0)), list(r, fSelect(x, 2))},
		{"map", pMap(pScan(0), col(1), x), list(r, fMap(2, col(1), x))},
		{"map to nothing", pMap(pScan(0)), list(r, fMap(2))},
		{"cross", pTwo(impl.PCross, pScan(0), pScan(1)), list(r, fScan(1), fJoin(0, 0, 3), fJoin(0, 2, 4))},
		{"dep", pTwo(impl.PDep, pScan(0), pScan(1)), list(append(r, under...), fJoin(2, 2, 5))},
		{"mark", pMark(y, pScan(0), pScan(1)), list(append(r, under...), fMark(2, y, 2, 5))},
		{"count", pCount(pScan(0), pScan(1)), list(append(r, under...), fAgg(2, 1, nil, 2, 5))},
		{"least", pAgg(3, y, pScan(0), pScan(1)), list(append(r, under...), fAgg(2, 3, y, 2, 5))},
		{"distinct", pDistinct(pScan(0)), list(r, fDistinct(2))},
		{"union", pTwo(impl.PUnion, pScan(1), pScan(2)), list(s, fScan(2), fJoin(0, 0, 3), fUnion(2, 4))},
		{"select of a unit", pSelect(lit(1), pUnit()), flat(fUnit(), fSelect(lit(1), 0))},
		{"map of a unit", pMap(pUnit(), lit(4)), flat(fUnit(), fMap(0, lit(4)))},
		{"distinct of a unit", pDistinct(pUnit()), flat(fUnit(), fDistinct(0))},
		{"union of units", pTwo(impl.PUnion, pUnit(), pUnit()), flat(fUnit(), fUnion(0, 0))},
		{"cross of units", pTwo(impl.PCross, pUnit(), pUnit()), flat(fUnit(), fJoin(0, 0, 0))},
		{"dep of units", pTwo(impl.PDep, pUnit(), pUnit()), flat(fUnit(), fDistinct(0), fJoin(0, 0, 1))},
		{"mark of units", pMark(lit(1), pUnit(), pUnit()), flat(fUnit(), fDistinct(0), fMark(0, lit(1), 0, 1))},
		{"count of units", pCount(pUnit(), pUnit()), flat(fUnit(), fDistinct(0), fAgg(0, 1, nil, 0, 1))},
		{"dep of a unit", pTwo(impl.PDep, pScan(0), pUnit()), list(r, fDistinct(2), fJoin(2, 2, 3))},
		{"count of a unit", pCount(pScan(0), pUnit()), list(r, fDistinct(2), fAgg(2, 1, nil, 2, 3))},
		{"a unit with a dep", pTwo(impl.PDep, pUnit(), pScan(0)), flat(fUnit(), fDistinct(0), fScan(0), fJoin(0, 1, 2), fJoin(0, 0, 3))},
	}
	for _, c := range cases {
		f, ok := impl.Unnest(c.plan.plan(), db)
		if !ok || !sameFlat(f, c.want) {
			t.Errorf("%s: %v %v, not %v", c.what, f, ok, c.want)
		}
		wantUnnest(t, c.what, c.plan, db)
	}
}

// Promise 11, the exact nodes under a domain that is not the first one: what W a product has, which columns a map
// puts in front, and which domain each side is under.
func TestUnnestUnderDomains(t *testing.T) {
	db := smallDb()
	first := []impl.FNode{fUnit(), fScan(0), fJoin(0, 0, 1), fDistinct(2)}
	cases := []struct {
		what string
		in   oper
		want []impl.FNode
	}{
		{"unit", pUnit(), nil},
		{"scan", pScan(1), []impl.FNode{fScan(1), fJoin(0, 3, 4)}},
		{"select", pSelect(col(0), pUnit()), []impl.FNode{fSelect(col(0), 3)}},
		{"map", pMap(pUnit(), lit(7)), []impl.FNode{fMap(3, col(0), col(1), lit(7))}},
		{"map of a scan", pMap(pScan(1), col(2), col(0)), []impl.FNode{fScan(1), fJoin(0, 3, 4), fMap(5, col(0), col(1), col(2), col(0))}},
		{"map to nothing", pMap(pUnit()), []impl.FNode{fMap(3, col(0), col(1))}},
		{"cross", pTwo(impl.PCross, pScan(1), pScan(0)), []impl.FNode{fScan(1), fJoin(0, 3, 4), fScan(0), fJoin(0, 3, 6), fJoin(2, 5, 7)}},
		{"cross of units", pTwo(impl.PCross, pUnit(), pUnit()), []impl.FNode{fJoin(2, 3, 3)}},
		{"union", pTwo(impl.PUnion, pScan(1), pScan(2)), []impl.FNode{fScan(1), fJoin(0, 3, 4), fScan(2), fJoin(0, 3, 6), fUnion(5, 7)}},
		{"distinct", pDistinct(pScan(1)), []impl.FNode{fScan(1), fJoin(0, 3, 4), fDistinct(5)}},
		{"dep", pTwo(impl.PDep, pScan(1), pScan(2)), []impl.FNode{fScan(1), fJoin(0, 3, 4), fDistinct(5), fScan(2), fJoin(0, 6, 7), fJoin(3, 5, 8)}},
		{"dep of units", pTwo(impl.PDep, pUnit(), pUnit()), []impl.FNode{fDistinct(3), fJoin(2, 3, 4)}},
		{"mark", pMark(col(3), pScan(1), pScan(2)), []impl.FNode{fScan(1), fJoin(0, 3, 4), fDistinct(5), fScan(2), fJoin(0, 6, 7), fMark(3, col(3), 5, 8)}},
		{"most", pAgg(4, col(2), pScan(1), pUnit()), []impl.FNode{fScan(1), fJoin(0, 3, 4), fDistinct(5), fAgg(3, 4, col(2), 5, 6)}},
		{"mark in mark", pMark(lit(1), pScan(1), pMark(col(0), pUnit(), pScan(2))), []impl.FNode{
			fScan(1), fJoin(0, 3, 4), fDistinct(5), fDistinct(6), fScan(2), fJoin(0, 7, 8), fMark(3, col(0), 6, 9), fMark(3, lit(1), 5, 10),
		}},
	}
	for _, c := range cases {
		for _, kind := range []int{impl.PDep, impl.PMark, impl.PAgg} {
			last, o := fJoin(2, 2, 0), pTwo(impl.PDep, pScan(0), c.in)
			switch kind {
			case impl.PMark:
				last, o = fMark(2, col(1), 2, 0), pMark(col(1), pScan(0), c.in)
			case impl.PAgg:
				last, o = fAgg(2, 2, col(1), 2, 0), pAgg(2, col(1), pScan(0), c.in)
			}
			nodes := append(slices.Clone(first), c.want...)
			last.R = len(nodes) - 1
			f, ok := impl.Unnest(o.plan(), db)
			if want := flat(append(nodes, last)...); !ok || !sameFlat(f, want) {
				t.Errorf("%s under kind %d: %v %v, not %v", c.what, kind, f, ok, want)
			}
			wantUnnest(t, c.what, o, db)
		}
	}
}

// Promise 11, the rows: a domain has each row once, but the rows that it was made of keep their multiplicity; NULLs
// find their own environment again.
func TestUnnestRows(t *testing.T) {
	n := null()
	db := impl.Db{Tables: []impl.Table{
		tableOf("a", 2, row(n, num(1)), row(oddNull(6), num(1)), row(n, n), nums(1, 2), nums(1, 2), nums(3, 2)),
		tableOf("b", 1, nums(1), nums(1), row(n), nums(2)),
	}}
	gives := func(what string, o oper, want ...[]impl.Val) {
		t.Helper()
		wantUnnest(t, what, o, db)
		f, _ := impl.Unnest(o.plan(), db)
		rows, ok := impl.EvalFlat(f, db)
		if !ok {
			t.Errorf("%s: it does not run", what)
		}
		wantRows(t, what, rows, want)
	}
	same := pSelect(is(col(2), impl.EqOp, col(0)), pScan(1))
	gives("dep", pTwo(impl.PDep, pScan(0), same), nums(1, 2, 1), nums(1, 2, 1), nums(1, 2, 1), nums(1, 2, 1))
	gives("count", pCount(pScan(0), same),
		row(n, n, num(0)), row(n, num(1), num(0)), row(n, num(1), num(0)), nums(1, 2, 2), nums(1, 2, 2), nums(3, 2, 0))
	gives("count of all", pCount(pScan(0), pScan(1)),
		row(n, n, num(4)), row(n, num(1), num(4)), row(n, num(1), num(4)), nums(1, 2, 4), nums(1, 2, 4), nums(3, 2, 4))
	gives("in", pMark(is(col(0), impl.EqOp, col(2)), pScan(0), pScan(1)),
		row(n, n, n), row(n, num(1), n), row(n, num(1), n), nums(1, 2, 1), nums(1, 2, 1), row(num(3), num(2), n))
	gives("least of what is greater", pAgg(3, col(2), pScan(0), pSelect(is(col(2), impl.GtOp, col(0)), pScan(1))),
		row(n, n, n), row(n, num(1), n), row(n, num(1), n), nums(1, 2, 2), nums(1, 2, 2), row(num(3), num(2), n))
	gives("the environment itself", pTwo(impl.PDep, pScan(0), pMap(pUnit(), col(0))),
		row(n, n, n), row(n, num(1), n), row(n, num(1), n), nums(1, 2, 1), nums(1, 2, 1), nums(3, 2, 3))
	gives("nothing inside", pTwo(impl.PDep, pScan(0), pSelect(lit(0), pScan(1))))
}

// Promise 11, every kind of operator under every other, and these below the right sides of PDep, PMark and PAgg
// inside one another; a PUnit under each.
func TestUnnestPairs(t *testing.T) {
	r := rand.New(rand.NewSource(43))
	kinds := []int{impl.PDep, impl.PMark, impl.PAgg}
	unit := func(env int) oper { return pUnit() }
	scan := func(env int) oper { return pScan(0) }
	for outer := impl.PSelect; outer <= impl.PUnion; outer++ {
		for inner := impl.PUnit; inner <= impl.PUnion; inner++ {
			for round := range 40 {
				g := planner{r: r, db: chanceDb(r)}
				leaf := func(env int) oper { return g.plan(env, 1) }
				if round%4 == 0 {
					leaf = unit
				}
				in := func(env int) oper { return g.of(inner, env, 1, leaf, leaf) }
				pair := func(env int) oper {
					if round%2 == 0 {
						return g.of(outer, env, 2, in, leaf)
					}
					return g.of(outer, env, 2, leaf, in)
				}
				wantUnnest(t, "a pair", pair(0), g.db)
				within := func(env int) oper { return g.of(kinds[r.Intn(3)], env, 3, scan, pair) }
				wantUnnest(t, "a pair within", g.of(kinds[r.Intn(3)], 0, 4, scan, within), g.db)
			}
		}
	}
	for i := range 27 {
		for round := range 60 {
			g := planner{r: r, db: chanceDb(r)}
			leaf := func(env int) oper { return g.plan(env, 1) }
			if round%4 == 0 {
				leaf = unit
			}
			third := func(env int) oper { return g.of(kinds[i%3], env, 2, leaf, leaf) }
			second := func(env int) oper { return g.of(kinds[i/3%3], env, 3, leaf, third) }
			wantUnnest(t, "three inside one another", g.of(kinds[i/9], 0, 4, leaf, second), g.db)
		}
	}
}

// Promise 11 at plans made by chance.
func TestUnnestByChance(t *testing.T) {
	r := rand.New(rand.NewSource(44))
	var came tally
	for range 12000 {
		g := planner{r: r, db: chanceDb(r)}
		o := g.plan(0, 1+r.Intn(5))
		wantUnnest(t, "by chance", o, g.db)
		came.add(impl.EvalPlan(o.plan(), g.db))
	}
	came.want(t, 6000, 20, 1000)
}

// Promise 11, plans of work of exactly MaxWork run as flat plans; those of more are unnested as well.
func TestUnnestWork(t *testing.T) {
	db := sizeDb(40, 50, 1)
	plans := func(l oper, r oper) []oper {
		return []oper{pTwo(impl.PCross, l, r), pTwo(impl.PDep, l, r), pMark(lit(0), l, r), pCount(l, r), pAgg(4, lit(1), l, r)}
	}
	for _, o := range plans(pScan(0), pScan(1)) {
		if work := impl.PlanWork(o.plan(), db); work != impl.MaxWork {
			t.Errorf("work %d", work)
		}
		wantUnnest(t, "work of MaxWork", o, db)
	}
	for _, o := range plans(pScan(0), pTwo(impl.PUnion, pScan(1), pScan(2))) {
		if work := impl.PlanWork(o.plan(), db); work != impl.MaxWork+1 {
			t.Errorf("work %d", work)
		}
		wantUnnest(t, "more work", o, db)
		f, _ := impl.Unnest(o.plan(), db)
		if rows, ok := impl.EvalFlat(f, db); ok || len(rows) != 0 {
			t.Errorf("more than MaxWork rows run: %d %v", len(rows), ok)
		}
	}
	// A plan of too much work whose flat plan has few rows, as the domain has each of them once.
	many := pMap(pTwo(impl.PUnion, pScan(1), pScan(1)), lit(1))
	o := pCount(many, pScan(0))
	f, ok := impl.Unnest(o.plan(), db)
	if rows, ran := impl.EvalFlat(f, db); impl.PlanWork(o.plan(), db) <= impl.MaxWork || !ok || !ran || len(rows) != 100 {
		t.Errorf("one environment for many rows: %d rows, %v", len(rows), ran)
	}
}

// Promise 11, plans of MaxPlan nodes and the widest ones.
func TestUnnestLargest(t *testing.T) {
	db := sizeDb(100)
	most := impl.MaxPlan - 1
	wantUnnest(t, "selects", tower(pScan(0), most, func(o oper) oper { return pSelect(is(col(0), impl.GeOp, lit(1)), o) }), db)
	wantUnnest(t, "maps", tower(pScan(0), most, func(o oper) oper { return pMap(o, col(0)) }), db)
	wantUnnest(t, "distincts", tower(pScan(0), most, pDistinct), db)
	for _, kind := range []int{impl.PUnion, impl.PDep, impl.PCross} {
		wantUnnest(t, "pairs", tower(pUnit(), most/2, func(o oper) oper { return pTwo(kind, pUnit(), o) }), db)
		wantUnnest(t, "pairs", tower(pUnit(), most/2, func(o oper) oper { return pTwo(kind, o, pUnit()) }), db)
	}
	inside := tower(pUnit(), most/2-1, func(o oper) oper { return pTwo(impl.PDep, pUnit(), o) })
	wantUnnest(t, "deps under rows", pTwo(impl.PDep, pScan(0), inside), db)
	marks := tower(pUnit(), most/2-1, func(o oper) oper { return pMark(lit(1), pUnit(), o) })
	wantUnnest(t, "marks under rows", pMark(col(1), pScan(0), marks), db)
	counts := tower(pUnit(), impl.MaxWidth-1, func(o oper) oper { return pCount(o, pScan(0)) })
	wantUnnest(t, "counts over counts", counts, sizeDb(3))
	db = wideDb()
	for _, kind := range []int{impl.PCross, impl.PDep} {
		for _, size := range []int{0, 1, 100, 199, 200} {
			left, right := wide(size, kind), wide(impl.MaxWidth-size, kind)
			wantUnnest(t, "wide", pTwo(impl.PDep, left, right), db)
			wantUnnest(t, "wide", pTwo(impl.PCross, left, right), db)
			if size < impl.MaxWidth {
				wantUnnest(t, "wide", pMark(col(impl.MaxWidth-1), left, right), db)
				wantUnnest(t, "wide", pCount(left, right), db)
			}
		}
	}
	if f, ok := impl.Unnest(tower(pScan(0), most+1, pDistinct).plan(), db); ok || !noFlat(f) {
		t.Errorf("one node too many: %d nodes, %v", len(f.Nodes), ok)
	}
}

// Promise 11, plans that are not valid.
func TestUnnestWrong(t *testing.T) {
	db := smallDb()
	wantNoUnnest(t, "no nodes", impl.Plan{}, db)
	wantNoUnnest(t, "a root too many", impl.Plan{Nodes: []impl.PNode{{K: impl.PUnit}, {K: impl.PUnit}}}, db)
	wantNoUnnest(t, "no such kind", impl.Plan{Nodes: []impl.PNode{{K: 11}}}, db)
	wantNoUnnest(t, "no such table", pScan(3).plan(), db)
	wantNoUnnest(t, "a column outside", pSelect(col(2), pScan(0)).plan(), db)
	wantNoUnnest(t, "a union of two widths", pTwo(impl.PUnion, pScan(0), pScan(1)).plan(), db)
	wantNoUnnest(t, "no expression", pMark(nil, pScan(0), pScan(1)).plan(), db)
	wantNoUnnest(t, "too wide", pMap(pUnit(), ones(impl.MaxWidth+1)...).plan(), db)
	wantNoUnnest(t, "no table at all", pScan(0).plan(), impl.Db{})
	for _, o := range kindsOfPlans() {
		bad := smallDb()
		bad.Tables[2].Cols = 0
		wantNoUnnest(t, "a wrong Db", o.plan(), bad)
	}
	r := rand.New(rand.NewSource(45))
	wrong := 0
	for range 6000 {
		g := planner{r: r, db: chanceDb(r)}
		p := g.plan(0, 1+r.Intn(4)).plan()
		spoil(r, &p)
		if _, valid := planWant(p, g.db); !valid {
			wantNoUnnest(t, "by chance", p, g.db)
			wrong++
		} else if f, ok := impl.Unnest(p, g.db); !ok || len(f.Nodes) == 0 {
			t.Errorf("a valid plan is not unnested: %v", p.Nodes)
		}
	}
	if wrong < 1000 {
		t.Errorf("only %d wrong plans", wrong)
	}
}

// The general words: a flat plan shares no memory with the plan, and no two lists of it share any.
func TestUnnestNewMemory(t *testing.T) {
	db := smallDb()
	plans := append(kindsOfPlans(), pTwo(impl.PDep, pScan(0), pMap(pMap(pScan(1), col(2), col(0)), col(2), lit(9))))
	for _, o := range plans {
		p := o.plan()
		keep := clonePlan(p)
		first, _ := impl.Unnest(p, db)
		want := cloneFlat(first)
		second, _ := impl.Unnest(p, db)
		noSharedExs(t, "a flat plan", second)
		scribble(second)
		if !samePlan(p, keep) {
			t.Errorf("the flat plan of %v shares memory with it", keep.Nodes)
		}
		if !sameFlat(first, want) {
			t.Errorf("two flat plans of %v share memory", keep.Nodes)
		}
	}
	// One expression that two nodes of the argument share is two in the answer.
	x := col(0)
	p := impl.Plan{Nodes: []impl.PNode{
		{K: impl.PScan}, {K: impl.PSelect, L: 0, Ex: x}, {K: impl.PSelect, L: 1, Ex: x}, {K: impl.PMap, L: 2, Exs: [][]impl.Op{x, x}},
	}}
	f, ok := impl.Unnest(p, db)
	if !ok {
		t.Errorf("a plan of one expression is not unnested")
	}
	noSharedExs(t, "a flat plan of one expression", f)
}
