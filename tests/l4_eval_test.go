package tests

import (
	"math"
	"math/rand"
	"slices"
	"strconv"
	"testing"

	"loop.example/s0035/impl"
)

// flatGives asks that a flat plan has exactly these rows, in this order.
func flatGives(t *testing.T, what string, f impl.Flat, db impl.Db, want ...[]impl.Val) {
	t.Helper()
	wantFlat(t, what, f, db)
	rows, ok := impl.EvalFlat(f, db)
	if !ok {
		t.Errorf("%s: it does not run: %v", what, f)
	}
	wantRows(t, what, rows, want)
}

// Promise 10, the rows of each kind.
func TestEvalFlatKinds(t *testing.T) {
	db := smallDb()
	n := null()
	r, s, none, unit := fScan(0), fScan(1), fScan(2), fUnit()
	flatGives(t, "unit", flat(unit), db, row())
	flatGives(t, "scan", flat(s), db, row(n), row(n), nums(1), nums(3), nums(3))
	flatGives(t, "scan of two", flat(r), db, row(num(1), n), nums(1, 1), nums(1, 1), row(num(2), n), nums(2, 3))
	flatGives(t, "scan of nothing", flat(none), db)
	flatGives(t, "select", flat(s, fSelect(is(col(0), impl.GeOp, lit(1)), 0)), db, nums(1), nums(3), nums(3))
	flatGives(t, "select what is unknown", flat(s, fSelect(col(0), 0)), db, nums(1), nums(3), nums(3))
	flatGives(t, "select of nothing", flat(none, fSelect(lit(1), 0)), db)
	flatGives(t, "map", flat(r, fMap(0, col(1), lit(7), col(1))), db,
		row(n, num(7), n), row(n, num(7), n), nums(1, 7, 1), nums(1, 7, 1), nums(3, 7, 3))
	flatGives(t, "map to nothing", flat(s, fMap(0)), db, row(), row(), row(), row(), row())
	flatGives(t, "map of a unit", flat(unit, fMap(0, lit(5))), db, nums(5))
	flatGives(t, "distinct", flat(r, fDistinct(0)), db, row(num(1), n), nums(1, 1), row(num(2), n), nums(2, 3))
	flatGives(t, "distinct of one column", flat(s, fDistinct(0)), db, row(n), nums(1), nums(3))
	flatGives(t, "distinct of no column", flat(s, fMap(0), fDistinct(1)), db, row())
	flatGives(t, "distinct of nothing", flat(none, fMap(0), fDistinct(1)), db)
	flatGives(t, "union", flat(s, r, fMap(1, col(0)), fUnion(0, 2)), db,
		row(n), row(n), nums(1), nums(1), nums(1), nums(1), nums(2), nums(2), nums(3), nums(3))
	flatGives(t, "union with itself", flat(s, fSelect(col(0), 0), fUnion(1, 1)), db, nums(1), nums(1), nums(3), nums(3), nums(3), nums(3))
	flatGives(t, "union with nothing", flat(none, s, fUnion(0, 1)), db, row(n), row(n), nums(1), nums(3), nums(3))
	flatGives(t, "union of nothing", flat(none, fUnion(0, 0)), db)
}

// Promise 10, joins: on no element, on some, on all; with nothing on either side.
func TestEvalFlatJoins(t *testing.T) {
	db := smallDb()
	n := null()
	r, s, none := fScan(0), fScan(1), fScan(2)
	flatGives(t, "join on nothing", flat(s, fMap(0, lit(4)), fSelect(is(col(0), impl.EqOp, lit(3)), 0), fJoin(0, 1, 2)), db,
		nums(4, 3), nums(4, 3), nums(4, 3), nums(4, 3), nums(4, 3), nums(4, 3), nums(4, 3), nums(4, 3), nums(4, 3), nums(4, 3))
	flatGives(t, "join on one", flat(s, r, fJoin(1, 0, 1)), db, row(num(1), n), nums(1, 1), nums(1, 1))
	flatGives(t, "join on the first of two", flat(r, s, fJoin(1, 0, 1)), db, row(num(1), n), nums(1, 1), nums(1, 1))
	flatGives(t, "join with itself", flat(s, fJoin(1, 0, 0)), db,
		row(n), row(n), row(n), row(n), nums(1), nums(3), nums(3), nums(3), nums(3))
	flatGives(t, "join on both", flat(r, fJoin(2, 0, 0)), db,
		row(num(1), n), nums(1, 1), nums(1, 1), nums(1, 1), nums(1, 1), row(num(2), n), nums(2, 3))
	flatGives(t, "join on the first of both", flat(r, fSelect(is(col(0), impl.EqOp, lit(2)), 0), fJoin(1, 1, 1)), db,
		row(num(2), n, n), row(num(2), n, num(3)), row(num(2), num(3), n), nums(2, 3, 3))
	flatGives(t, "join with nothing", flat(s, none, fJoin(1, 0, 1)), db)
	flatGives(t, "nothing with a join", flat(none, s, fJoin(1, 0, 1)), db)
	flatGives(t, "join on nothing with nothing", flat(s, none, fJoin(0, 0, 1)), db)
	flatGives(t, "join with a unit", flat(s, fUnit(), fJoin(0, 0, 1)), db, row(n), row(n), nums(1), nums(3), nums(3))
	flatGives(t, "a unit with a join", flat(fUnit(), s, fJoin(0, 0, 1)), db, row(n), row(n), nums(1), nums(3), nums(3))
}

// Promise 10, what matches: NULL is like NULL whatever its N, and like no number; two rows whose elements together
// look the same do not match when they are not alike one by one.
func TestEvalFlatMatches(t *testing.T) {
	rows := [][]impl.Val{}
	vals := append(someVals(), num(256), num(255), num(257), num(1<<8|1<<16), num(10), num(12), num(-10), num(1<<56), num(-256), num(3<<61))
	for _, a := range vals {
		for _, b := range []impl.Val{null(), oddNull(1), num(0), num(1), num(256), num(-1), num(12), num(2)} {
			rows = append(rows, row(a, b))
		}
	}
	for _, a := range rows {
		db := impl.Db{Tables: []impl.Table{tableOf("a", 2, a), tableOf("b", 2, rows...)}}
		for w := range 3 {
			many := int64(0)
			for _, b := range rows {
				if alike(a[:w], b[:w]) {
					many++
				}
			}
			f := flat(fScan(0), fScan(1), fAgg(w, 1, nil, 0, 1), fMap(2, col(2)))
			if got, ok := impl.EvalFlat(f, db); !ok || len(got) != 1 || got[0][0] != num(many) {
				t.Errorf("%v on %d elements: %v %v, not %d", a, w, got, ok, many)
			}
			f = flat(fScan(0), fScan(1), fJoin(w, 0, 1))
			if got, ok := impl.EvalFlat(f, db); !ok || len(got) != int(many) {
				t.Errorf("%v joined on %d elements: %d rows %v, not %d", a, w, len(got), ok, many)
			}
		}
	}
	db := impl.Db{Tables: []impl.Table{tableOf("a", 2, row(null(), oddNull(4))), tableOf("b", 2, row(oddNull(9), null()), row(num(9), num(4)), row(num(0), num(0)))}}
	n := null()
	flatGives(t, "NULL with an N against NULL", flat(fScan(0), fScan(1), fJoin(2, 0, 1)), db, row(n, n))
	flatGives(t, "NULLs are one row", flat(fScan(0), fScan(1), fUnion(0, 1), fDistinct(2)), db, row(n, n), nums(0, 0), nums(9, 4))
	db = impl.Db{Tables: []impl.Table{tableOf("a", 3, row(n, num(0), num(1)), row(num(0), n, num(1)), row(n, n, num(1)), row(num(1), n, n))}}
	flatGives(t, "NULLs at other places", flat(fScan(0), fAgg(3, 1, nil, 0, 0), fMap(1, col(3))), db, nums(1), nums(1), nums(1), nums(1))
}

// heldDb has keys 1 to 4 and NULL on the left, and on the right the values of each key.
func heldDb(vals map[int][]impl.Val) impl.Db {
	left, right := tableOf("l", 1), tableOf("r", 2)
	for key := range 5 {
		left.Rows = append(left.Rows, nums(int64(key)))
		for _, v := range vals[key] {
			right.Rows = append(right.Rows, row(num(int64(key)), v))
		}
	}
	left.Rows = append(left.Rows, row(oddNull(2)), nums(4))
	for _, v := range vals[9] {
		right.Rows = append(right.Rows, row(null(), v))
	}
	return impl.Db{Tables: []impl.Table{left, right, tableOf("none", 2)}}
}

// Promise 10, marks, semi joins and anti joins: over no match, false, true, unknown, and mixtures of them.
func TestEvalFlatMarks(t *testing.T) {
	n := null()
	db := heldDb(map[int][]impl.Val{
		1: nums(0, 0), 2: row(num(0), n), 3: row(n, num(-7), num(0)), 4: row(num(0), num(5)), 9: row(oddNull(3)),
	})
	l, r := fScan(0), fScan(1)
	x := col(1)
	flatGives(t, "mark", flat(l, r, fMark(1, x, 0, 1)), db,
		row(n, n), nums(0, 0), nums(1, 0), row(num(2), n), nums(3, 1), nums(4, 1), nums(4, 1))
	flatGives(t, "semi", flat(l, r, fHeld(impl.FSemi, 1, x, 0, 1)), db, nums(3), nums(4), nums(4))
	flatGives(t, "anti", flat(l, r, fHeld(impl.FAnti, 1, x, 0, 1)), db, nums(0), nums(1))
	not := append(col(1), op(impl.XNot, 0))
	flatGives(t, "mark of not", flat(l, r, fMark(1, not, 0, 1)), db,
		row(n, n), nums(0, 0), nums(1, 1), nums(2, 1), nums(3, 1), nums(4, 1), nums(4, 1))
	flatGives(t, "semi of not", flat(l, r, fHeld(impl.FSemi, 1, not, 0, 1)), db, nums(1), nums(2), nums(3), nums(4), nums(4))
	flatGives(t, "anti of not", flat(l, r, fHeld(impl.FAnti, 1, not, 0, 1)), db, nums(0))
	all := []int64{0, 1, 2, 3, 4, 4}
	for _, kind := range []int{impl.FSemi, impl.FAnti} {
		// With W = 0 each row of the left side has all rows of the right one as its matches.
		everyone := [][]impl.Val{row(n)}
		for _, k := range all {
			everyone = append(everyone, nums(k))
		}
		for _, c := range []struct {
			value []impl.Op
			right int
			kept  bool
		}{
			{lit(3), 1, kind == impl.FSemi}, {lit(0), 1, kind == impl.FAnti}, {ex(op(impl.XNull, 0)), 1, false}, {col(1), 1, kind == impl.FSemi},
			{lit(3), 2, kind == impl.FAnti}, {lit(0), 2, kind == impl.FAnti}, {ex(op(impl.XNull, 0)), 2, kind == impl.FAnti},
		} {
			want := everyone
			if !c.kept {
				want = nil
			}
			flatGives(t, "on no element", flat(l, fScan(c.right), fHeld(kind, 0, c.value, 0, 1)), db, want...)
		}
	}
	flatGives(t, "mark with nothing on the right", flat(l, fScan(2), fMark(1, x, 0, 1)), db,
		row(n, num(0)), nums(0, 0), nums(1, 0), nums(2, 0), nums(3, 0), nums(4, 0), nums(4, 0))
	flatGives(t, "mark with nothing on the left", flat(fScan(2), r, fMark(1, x, 0, 1)), db)
}

// Promise 10, aggregates: over no match, over NULLs alone, over both and over numbers.
func TestEvalFlatAggregates(t *testing.T) {
	n := null()
	db := heldDb(map[int][]impl.Val{
		1: row(n, oddNull(-8)), 2: row(oddNull(-99), num(4), n, num(-2), oddNull(99), num(4)), 3: nums(0),
		4: nums(math.MaxInt64, math.MinInt64), 9: row(num(7), n),
	})
	l, r := fScan(0), fScan(1)
	keys := []impl.Val{n, num(0), num(1), num(2), num(3), num(4), num(4)}
	want := [][]impl.Val{
		1: nums(2, 0, 2, 6, 1, 2, 2),
		2: nums(1, 0, 0, 3, 1, 2, 2),
		3: row(num(7), n, n, num(-2), num(0), num(math.MinInt64), num(math.MinInt64)),
		4: row(num(7), n, n, num(4), num(0), num(math.MaxInt64), num(math.MaxInt64)),
	}
	for m := 1; m <= 4; m++ {
		x := col(1)
		if m == 1 {
			x = nil
		}
		var rows, none [][]impl.Val
		for i, key := range keys {
			rows = append(rows, row(key, want[m][i]))
			none = append(none, row(key, aggWant(m, 0, nil)))
		}
		flatGives(t, "aggregate", flat(l, r, fAgg(1, m, x, 0, 1)), db, rows...)
		flatGives(t, "aggregate with nothing on the right", flat(l, fScan(2), fAgg(1, m, x, 0, 1)), db, none...)
		flatGives(t, "aggregate with nothing on the left", flat(fScan(2), r, fAgg(1, m, x, 0, 1)), db)
		total := []impl.Val{1: num(13), 2: num(7), 3: num(math.MinInt64), 4: num(math.MaxInt64)}[m]
		flatGives(t, "aggregate of all", flat(fUnit(), r, fAgg(0, m, x, 0, 1)), db, row(total))
	}
}

// Promise 10, a node that several later ones use has the same rows for all of them, wherever they stand.
func TestEvalFlatShared(t *testing.T) {
	db := impl.Db{Tables: []impl.Table{tableOf("a", 1, nums(1), nums(2), nums(2))}}
	nodes := []impl.FNode{fScan(0), fMap(0, col(0), lit(1))}
	for i := range 20 {
		// Each one is used by the next one and by the last ones, so that its rows must be there for long.
		nodes = append(nodes, fMap(i+1, col(0), lit(int64(i))))
	}
	f := flat(append(nodes, fUnion(1, 2), fUnion(22, 21), fUnion(23, 1), fDistinct(24), fJoin(1, 25, 0))...)
	wantFlat(t, "shared", f, db)
	for root := range f.Nodes {
		f.Root = root
		wantFlat(t, "shared", f, db)
	}
	flatGives(t, "both sides", flat(fScan(0), fMark(1, is(col(0), impl.EqOp, lit(2)), 0, 0), fAgg(2, 1, nil, 1, 1), fUnion(2, 2), fHeld(impl.FSemi, 3, lit(1), 3, 2)), db,
		nums(1, 0, 1), nums(1, 0, 1), nums(2, 1, 2), nums(2, 1, 2), nums(2, 1, 2), nums(2, 1, 2))
}

// workFlat is a flat plan with a node of that many rows at its root, made by a join or by a union.
func workFlat(join bool, more int) (impl.Flat, impl.Db) {
	db := sizeDb(40, 50, more)
	if join {
		// 40 times 50 is MaxWork; the others come with the rows of the third table, by one row on the left.
		return flat(fScan(0), fScan(1), fScan(2), fMap(0, lit(1), col(0)), fMap(1, lit(1), col(0)), fMap(2, lit(2), col(0)),
			fUnit(), fMap(6, lit(2), lit(0)), fUnion(3, 7), fUnion(4, 5), fJoin(1, 8, 9)), db
	}
	return flat(fScan(0), fScan(1), fScan(2), fJoin(0, 0, 1), fMap(3, col(0)), fUnion(4, 2)), db
}

// Promise 10, a node of exactly MaxWork rows and of more, at the root and elsewhere.
func TestEvalFlatLimits(t *testing.T) {
	for _, join := range []bool{true, false} {
		for more, good := range []bool{true, false, false} {
			what := strconv.FormatBool(join) + " " + strconv.Itoa(more)
			f, db := workFlat(join, more)
			last := f.Root
			wantFlat(t, what, f, db)
			if rows, ok := impl.EvalFlat(f, db); ok != good || ok && len(rows) != impl.MaxWork {
				t.Errorf("%s: %d rows, %v", what, len(rows), ok)
			}
			f.Root = 0
			if rows, ok := impl.EvalFlat(f, db); ok != good || ok && len(rows) != 40 || !ok && len(rows) != 0 {
				t.Errorf("%s at a node that the root does not use: %d rows, %v", what, len(rows), ok)
			}
			under := f
			under.Nodes = append(slices.Clone(f.Nodes), fSelect(lit(0), last), fUnit())
			for _, root := range []int{last + 1, last + 2} {
				under.Root = root
				if rows, ok := impl.EvalFlat(under, db); ok != good || len(rows) > 1 {
					t.Errorf("%s below the root: %d rows, %v", what, len(rows), ok)
				}
			}
		}
	}
	// Many rows on both sides are no fault where few of them are made.
	f, db := workFlat(true, 0)
	last := f.Root
	f.Nodes = append(f.Nodes, fMark(0, lit(1), last, last), fAgg(0, 1, nil, last, last), fHeld(impl.FSemi, 3, lit(1), last, last), fUnion(last, last))
	for extra, good := range []bool{true, true, true, true, false} {
		f := rooted(last+extra, f.Nodes[:last+1+extra]...)
		if rows, ok := impl.EvalFlat(f, db); ok != good || ok && len(rows) != impl.MaxWork {
			t.Errorf("%d nodes of MaxWork rows: %d rows, %v", extra, len(rows), ok)
		}
	}
}

// Promise 10, a join that would make more rows than there is room for ends at once, and so do thousands of them; and
// a right side with many rows is not gone through again for each row of the left one.
func TestEvalFlatEnds(t *testing.T) {
	db := sizeDb(1000)
	nodes := []impl.FNode{fScan(0), fUnion(0, 0)}
	for len(nodes) < impl.MaxFlat {
		nodes = append(nodes, fJoin(0, 1, 1))
	}
	if rows, ok := impl.EvalFlat(rooted(0, nodes...), db); ok || len(rows) != 0 {
		t.Errorf("joins of millions of rows: %d rows, %v", len(rows), ok)
	}
	nodes = []impl.FNode{fScan(0), fUnion(0, 0)}
	for range 10 {
		nodes = append(nodes, fMark(0, longEx(999), len(nodes)-1, 1), fAgg(0, 4, longEx(999), len(nodes), 1))
	}
	if rows, ok := impl.EvalFlat(flat(nodes...), db); !ok || len(rows) != impl.MaxWork {
		t.Errorf("marks over all rows: %d rows, %v", len(rows), ok)
	}
}

// Promise 10 at flat plans made by chance; all places are Root once.
func TestEvalFlatByChance(t *testing.T) {
	r := rand.New(rand.NewSource(42))
	var came tally
	for round := range 6000 {
		g := chanceFlatter(r)
		f := g.flat(1 + r.Intn(8+round%30))
		wantFlat(t, "by chance", f, g.db)
		came.add(impl.EvalFlat(f, g.db))
	}
	came.want(t, 4000, 50, 1000)
}

// Promise 10, the longest and the widest flat plans.
func TestEvalFlatLargest(t *testing.T) {
	db := sizeDb(900, 60)
	run := func(what string, rows int, nodes []impl.FNode) {
		t.Helper()
		if got, ok := impl.EvalFlat(flat(nodes...), db); !ok || len(got) != rows {
			t.Errorf("%s: %v with %d rows, not %d", what, ok, len(got), rows)
		}
	}
	grow := func(first []impl.FNode, next func(here int) impl.FNode) []impl.FNode {
		nodes := slices.Clone(first)
		for len(nodes) < impl.MaxFlat {
			nodes = append(nodes, next(len(nodes)))
		}
		return nodes
	}
	big, small := []impl.FNode{fScan(0)}, []impl.FNode{fScan(1)}
	run("selects", 899, grow(big, func(here int) impl.FNode { return fSelect(is(col(0), impl.GeOp, lit(1)), here-1) }))
	run("a star of selects", 899, grow(big, func(here int) impl.FNode { return fSelect(is(col(0), impl.GeOp, lit(1)), 0) }))
	run("semi joins", 60, grow(small, func(here int) impl.FNode { return fHeld(impl.FSemi, 1, lit(1), here-1, 0) }))
	run("joins in pairs", 60, grow(small, func(here int) impl.FNode { return fJoin(1, here/2, (here-1)/2) }))
	marks := slices.Clone(big)
	for len(marks) < impl.MaxWidth {
		marks = append(marks, fMark(len(marks), lit(1), len(marks)-1, len(marks)-1))
	}
	run("marks", 900, marks)
	run("a row of full width", 900, append(marks, fDistinct(len(marks)-1), fJoin(impl.MaxWidth, len(marks)-1, len(marks))))
}

// The general words: the rows of an answer are new memory, and so is the next answer.
func TestEvalFlatNewMemory(t *testing.T) {
	db := smallDb()
	flats := append(kindsOfFlats(),
		flat(fScan(0)),
		flat(fScan(0), fUnion(0, 0)),
		flat(fScan(0), fUnit(), fJoin(0, 0, 1)),
		flat(fScan(0), fUnit(), fJoin(0, 1, 0)),
		flat(fScan(0), fUnit(), fUnion(1, 1), fJoin(0, 0, 2)),
		flat(fScan(0), fJoin(2, 0, 0)),
		flat(fScan(0), fDistinct(0)),
		flat(fScan(0), fSelect(lit(1), 0)),
	)
	for i, f := range flats {
		keepFlat, keepDb := cloneFlat(f), cloneDb(db)
		first, _ := impl.EvalFlat(f, db)
		keep := cloneRows(first)
		second, _ := impl.EvalFlat(f, db)
		for k, r := range second {
			_ = append(r, num(1000))
			for c := range r {
				r[c] = num(int64(100*k + c))
			}
		}
		for k, r := range second {
			for c := range r {
				if r[c] != num(int64(100*k+c)) {
					t.Errorf("flat plan %d: row %d shares memory with another one", i, k)
				}
			}
		}
		wantRows(t, "two answers share memory", first, keep)
		if !sameFlat(f, keepFlat) || !sameDb(db, keepDb) {
			t.Errorf("flat plan %d: an answer shares memory with an argument", i)
		}
	}
}
