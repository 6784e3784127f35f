package tests

import (
	"math/rand"
	"slices"
	"testing"

	"loop.example/s0035/impl"
)

// simplifyWant is what Simplify has to give: it tries all pairs of nodes and asks for each of the document's words.
func simplifyWant(f impl.Flat, db impl.Db) impl.Flat {
	out := cloneFlat(f)
	var widths []int
	for _, n := range f.Nodes {
		width, _ := fnodeWant(n, widths, db)
		widths = append(widths, width)
	}
	for i, mark := range f.Nodes {
		for j, ask := range f.Nodes {
			if mark.K != 6 || ask.K != 3 || ask.L != i || f.Root == i || usedElsewhere(f, i, j) {
				continue
			}
			m := widths[i] - 1
			var xs [][]impl.Op
			for c := range m {
				xs = append(xs, col(int64(c)))
			}
			if slices.Equal(ask.Ex, col(int64(m))) {
				out.Nodes[i].K = 10
				out.Nodes[j] = fMap(i, append(xs, lit(1))...)
			} else if slices.Equal(ask.Ex, append(col(int64(m)), op(impl.XNot, 0))) {
				out.Nodes[i].K = 11
				out.Nodes[j] = fMap(i, append(xs, lit(0))...)
			}
		}
	}
	return out
}

// usedElsewhere says whether a node but j uses node i as L or R.
func usedElsewhere(f impl.Flat, i int, j int) bool {
	for k, n := range f.Nodes {
		for _, field := range flatUses(n.K) {
			if k != j && (field == 'L' && n.L == i || field == 'R' && n.R == i) {
				return true
			}
		}
	}
	return false
}

// wantSimplify asks for the exact list, that it is valid with the same width and has the same rows, that a second time
// changes nothing, and that the arguments stay.
func wantSimplify(t *testing.T, what string, f impl.Flat, db impl.Db) {
	t.Helper()
	keepFlat, keepDb := cloneFlat(f), cloneDb(db)
	out, ok := impl.Simplify(f, db)
	if want := simplifyWant(f, db); !ok || !sameFlat(out, want) {
		t.Errorf("%s: %v gives %v with %v\nwant %v", what, f, out, ok, want)
		return
	}
	if !sameFlat(f, keepFlat) || !sameDb(db, keepDb) {
		t.Errorf("%s: an argument has changed", what)
	}
	wantWidth, _ := impl.FlatOk(f, db)
	if width, ok := impl.FlatOk(out, db); !ok || width != wantWidth {
		t.Errorf("%s: the simple plan of %v: %d %v, not %d", what, f, width, ok, wantWidth)
	}
	if again, ok := impl.Simplify(out, db); !ok || !sameFlat(again, out) {
		t.Errorf("%s: a second time gives %v with %v, not %v", what, again, ok, out)
	}
	if want, runs := impl.EvalFlat(f, db); runs {
		rows, ok := impl.EvalFlat(out, db)
		if !ok {
			t.Errorf("%s: the simple plan of %v does not run", what, f)
		}
		wantRows(t, what, rows, want)
	}
}

// simplified asks for exactly these nodes.
func simplified(t *testing.T, what string, f impl.Flat, db impl.Db, want impl.Flat) {
	t.Helper()
	wantSimplify(t, what, f, db)
	if out, ok := impl.Simplify(f, db); !ok || !sameFlat(out, want) {
		t.Errorf("%s: %v %v, not %v", what, out, ok, want)
	}
}

// stays asks that Simplify gives the same flat plan.
func stays(t *testing.T, what string, f impl.Flat, db impl.Db) {
	t.Helper()
	simplified(t, what, f, db, cloneFlat(f))
}

// Promise 12, the two forms, at rows of several widths.
func TestSimplifyForms(t *testing.T) {
	db := smallDb()
	r, s := fScan(0), fScan(1)
	x := is(col(0), impl.EqOp, lit(1))
	mark, not := fMark(1, x, 0, 1), ex(op(impl.XCol, 2), op(impl.XNot, 0))
	semi, anti := fHeld(impl.FSemi, 1, x, 0, 1), fHeld(impl.FAnti, 1, x, 0, 1)
	simplified(t, "semi", flat(r, s, mark, fSelect(col(2), 2)), db, flat(r, s, semi, fMap(2, col(0), col(1), lit(1))))
	simplified(t, "anti", flat(r, s, mark, fSelect(not, 2)), db, flat(r, s, anti, fMap(2, col(0), col(1), lit(0))))
	simplified(t, "of one column", flat(r, s, fMark(1, col(1), 1, 0), fSelect(col(1), 2)), db,
		flat(r, s, fHeld(impl.FSemi, 1, col(1), 1, 0), fMap(2, col(0), lit(1))))
	simplified(t, "of no column", flat(fUnit(), s, fMark(0, col(0), 0, 1), fSelect(col(0), 2)), db,
		flat(fUnit(), s, fHeld(impl.FSemi, 0, col(0), 0, 1), fMap(2, lit(1))))
	simplified(t, "none of no column", flat(fUnit(), s, fMark(0, col(0), 0, 1), fSelect(ex(op(impl.XCol, 0), op(impl.XNot, 0)), 2)), db,
		flat(fUnit(), s, fHeld(impl.FAnti, 0, col(0), 0, 1), fMap(2, lit(0))))
	simplified(t, "with nodes in between and behind", rooted(5, r, s, mark, fUnit(), fSelect(col(2), 2), fMap(4, col(1)), fDistinct(5)), db,
		rooted(5, r, s, semi, fUnit(), fMap(2, col(0), col(1), lit(1)), fMap(4, col(1)), fDistinct(5)))
	simplified(t, "where the root does not use it", rooted(1, r, s, mark, fSelect(not, 2)), db,
		rooted(1, r, s, anti, fMap(2, col(0), col(1), lit(0))))
	simplified(t, "a select with many users", flat(r, s, mark, fSelect(col(2), 2), fUnion(3, 3), fJoin(1, 3, 3)), db,
		flat(r, s, semi, fMap(2, col(0), col(1), lit(1)), fUnion(3, 3), fJoin(1, 3, 3)))
	simplified(t, "one on both sides", flat(r, fMark(2, lit(1), 0, 0), fSelect(col(2), 1)), db,
		flat(r, fHeld(impl.FSemi, 2, lit(1), 0, 0), fMap(1, col(0), col(1), lit(1))))
	// Nodes that do not use L or R have 0 there: this is no use of node 0 or of any other.
	simplified(t, "fields that are not used", flat(fUnit(), fMark(0, lit(1), 0, 0), fScan(0), fSelect(col(0), 1), fUnit()), db,
		flat(fUnit(), fHeld(impl.FSemi, 0, lit(1), 0, 0), fScan(0), fMap(1, lit(1)), fUnit()))
}

// Promise 12, expressions that are other ones.
func TestSimplifyOtherExpressions(t *testing.T) {
	db := smallDb()
	not := op(impl.XNot, 0)
	for _, x := range [][]impl.Op{
		col(0), col(1), append(col(1), not), append(col(0), not), lit(1), lit(2), lit(0), append(lit(2), not), ex(op(impl.XNull, 0)),
		append(col(2), not, not), append(col(2), not, not, not), append(col(2), op(impl.XIsNull, 0)), is(col(2), impl.EqOp, lit(1)),
		append(append(col(2), col(2)...), op(impl.XAnd, 0)), append(append(col(2), col(2)...), op(impl.XOr, 0)),
		append(append(col(2), lit(1)...), op(impl.XAnd, 0)), append(append(col(2), col(0)...), op(impl.XAnd, 0)),
	} {
		stays(t, "another expression", flat(fScan(0), fScan(1), fMark(1, col(0), 0, 1), fSelect(x, 2)), db)
	}
	stays(t, "a map of the mark", flat(fScan(0), fScan(1), fMark(1, col(0), 0, 1), fMap(2, col(2))), db)
	stays(t, "not a mark", flat(fScan(0), fScan(1), fAgg(1, 2, col(0), 0, 1), fSelect(col(2), 2)), db)
	stays(t, "a select of a table", flat(fScan(0), fSelect(col(1), 0)), db)
	stays(t, "a select of a select", flat(fScan(0), fScan(1), fMark(1, col(0), 0, 1), fSelect(col(0), 2), fSelect(col(2), 3)), db)
}

// Promise 12, a mark that somebody else uses.
func TestSimplifySecondUser(t *testing.T) {
	db := smallDb()
	head := []impl.FNode{fScan(0), fScan(1), fMark(1, is(col(0), impl.EqOp, lit(1)), 0, 1)}
	for _, x := range [][]impl.Op{col(2), ex(op(impl.XCol, 2), op(impl.XNot, 0))} {
		list := func(nodes ...impl.FNode) impl.Flat { return flat(append(slices.Clone(head), nodes...)...) }
		ask := fSelect(x, 2)
		users := []impl.FNode{
			fSelect(lit(1), 2), fMap(2), fDistinct(2), fUnion(2, 3), fUnion(3, 2), fJoin(1, 2, 3), fJoin(1, 0, 2), fJoin(1, 2, 2),
			fMark(1, lit(1), 2, 1), fMark(1, lit(1), 1, 2), fAgg(1, 1, nil, 2, 1), fAgg(1, 2, lit(1), 1, 2),
			fHeld(impl.FSemi, 1, lit(1), 2, 0), fHeld(impl.FSemi, 1, lit(1), 0, 2), fHeld(impl.FAnti, 1, lit(1), 2, 0), fHeld(impl.FAnti, 1, lit(1), 0, 2),
		}
		for _, user := range users {
			stays(t, "a second user", list(ask, user), db)
			f := list(ask, user)
			f.Root = 3
			stays(t, "a second user that the root does not use", f, db)
			// The second user may stand in front of the one that asks, if it does not use that one.
			if user.L != 3 && user.R != 3 {
				stays(t, "a second user in front", list(user, ask), db)
			}
		}
		stays(t, "two that ask the same", list(ask, ask), db)
		stays(t, "two that ask the two questions", list(fSelect(col(2), 2), fSelect(ex(op(impl.XCol, 2), op(impl.XNot, 0)), 2)), db)
		f := list(ask)
		f.Root = 2
		stays(t, "a mark that is the root", f, db)
		// One whose sides are used by others is used by one alone.
		wantSimplify(t, "sides with other users", list(ask, fJoin(1, 0, 1), fUnion(3, 3)), db)
		if out, _ := impl.Simplify(list(ask, fJoin(1, 0, 1), fUnion(3, 3)), db); out.Nodes[2].K == impl.FMark {
			t.Errorf("a mark stays though only its sides have other users")
		}
	}
}

// Promise 12, marks of marks.
func TestSimplifyMarksOfMarks(t *testing.T) {
	db := smallDb()
	r, s := fScan(0), fScan(1)
	one, two := is(col(0), impl.EqOp, lit(1)), is(col(0), impl.GtOp, lit(1))
	semi := func(w int, x []impl.Op, l int, r int) impl.FNode { return fHeld(impl.FSemi, w, x, l, r) }
	not := ex(op(impl.XCol, 3), op(impl.XNot, 0))
	simplified(t, "the outer mark alone", flat(r, s, fMark(1, one, 0, 1), fMark(1, two, 2, 1), fSelect(col(3), 3)), db,
		flat(r, s, fMark(1, one, 0, 1), semi(1, two, 2, 1), fMap(3, col(0), col(1), col(2), lit(1))))
	stays(t, "the inner mark is asked for through the outer one", flat(r, s, fMark(1, one, 0, 1), fMark(1, two, 2, 1), fSelect(col(2), 3)), db)
	simplified(t, "both", flat(r, s, fMark(1, one, 0, 1), fSelect(col(2), 2), fMark(1, two, 3, 1), fSelect(not, 4)), db,
		flat(r, s, semi(1, one, 0, 1), fMap(2, col(0), col(1), lit(1)), fHeld(impl.FAnti, 1, two, 3, 1), fMap(4, col(0), col(1), col(2), lit(0))))
	simplified(t, "one within the right side", flat(r, s, fMark(1, one, 1, 0), fSelect(col(1), 2), fMark(1, two, 0, 3), fSelect(col(2), 4)), db,
		flat(r, s, semi(1, one, 1, 0), fMap(2, col(0), lit(1)), semi(1, two, 0, 3), fMap(4, col(0), col(1), lit(1))))
	stays(t, "a mark of itself twice", flat(r, s, fMark(1, one, 0, 1), fMark(1, two, 2, 2), fSelect(col(2), 2)), db)
	simplified(t, "two marks side by side", flat(r, s, fMark(1, one, 0, 1), fMark(1, two, 0, 1), fSelect(col(2), 3), fSelect(col(2), 2), fUnion(4, 5)), db,
		flat(r, s, semi(1, one, 0, 1), semi(1, two, 0, 1), fMap(3, col(0), col(1), lit(1)), fMap(2, col(0), col(1), lit(1)), fUnion(4, 5)))
}

// Promise 12, the rows that come out are the same: over no match, unknown marks, rows several times.
func TestSimplifyRows(t *testing.T) {
	n := null()
	db := heldDb(map[int][]impl.Val{
		1: nums(0, 0), 2: row(num(0), n), 3: row(n, num(-7), num(0)), 4: row(num(0), num(5)), 9: row(oddNull(3)),
	})
	head := []impl.FNode{fScan(0), fScan(1), fMark(1, col(1), 0, 1)}
	gives := func(what string, x []impl.Op, want ...[]impl.Val) {
		t.Helper()
		f := flat(append(slices.Clone(head), fSelect(x, 2))...)
		flatGives(t, what, f, db, want...)
		out, _ := impl.Simplify(f, db)
		flatGives(t, what, out, db, want...)
		if out.Nodes[2].K == impl.FMark {
			t.Errorf("%s: the mark stays", what)
		}
	}
	gives("true", col(1), nums(3, 1), nums(4, 1), nums(4, 1))
	gives("false", ex(op(impl.XCol, 1), op(impl.XNot, 0)), nums(0, 0), nums(1, 0))
}

// Promise 12 at flat plans made by chance, and at those of plans made by chance.
func TestSimplifyByChance(t *testing.T) {
	r := rand.New(rand.NewSource(46))
	turned, stayed, full := 0, 0, 0
	for round := range 12000 {
		g := chanceFlatter(r)
		g.grows = false
		f := g.flat(1 + r.Intn(12))
		if round%4 == 0 {
			asked := pSelect(col(0), pMark(g.ex(1, 1), pUnit(), pScan(0)))
			f, _ = impl.Unnest(pTwo(impl.PCross, asked, g.plan(0, 3)).plan(), g.db)
		}
		wantSimplify(t, "by chance", f, g.db)
		out, _ := impl.Simplify(f, g.db)
		marks := 0
		for i, n := range f.Nodes {
			if n.K == impl.FMark && out.Nodes[i].K != impl.FMark {
				turned++
			} else if n.K == impl.FMark {
				marks++
			}
		}
		stayed += marks
		if rows, _ := impl.EvalFlat(out, g.db); len(rows) > 0 {
			full++
		}
	}
	if turned < 1000 || stayed < 1000 || full < 1000 {
		t.Errorf("%d marks turned, %d stayed, %d have rows", turned, stayed, full)
	}
}

// Promise 12, the longest and the widest flat plans.
func TestSimplifyLargest(t *testing.T) {
	db := sizeDb(5)
	f := flat(fScan(0))
	for len(f.Nodes)+3 <= impl.MaxFlat {
		here := len(f.Nodes)
		f.Nodes = append(f.Nodes, fMark(1, lit(1), here-1, 0), fSelect(col(1), here), fMap(here+1, col(0)))
	}
	f.Root = len(f.Nodes) - 1
	out, ok := impl.Simplify(f, db)
	if !ok || len(out.Nodes) != len(f.Nodes) {
		t.Fatalf("%d nodes, %v", len(out.Nodes), ok)
	}
	for i, n := range out.Nodes {
		if n.K == impl.FMark || n.K == impl.FSelect {
			t.Fatalf("node %d stays", i)
		}
	}
	if rows, ok := impl.EvalFlat(out, db); !ok || len(rows) != 5 {
		t.Errorf("%d rows, %v", len(rows), ok)
	}
	wide := fMap(0, ones(impl.MaxWidth-1)...)
	wantSimplify(t, "a row of full width", flat(fUnit(), wide, fMark(0, lit(1), 1, 0), fSelect(col(impl.MaxWidth-1), 2)), db)
	if out, _ := impl.Simplify(flat(fUnit(), wide, fMark(0, lit(1), 1, 0), fSelect(col(impl.MaxWidth-1), 2)), db); len(out.Nodes[3].Exs) != impl.MaxWidth {
		t.Errorf("a row of full width has %d expressions", len(out.Nodes[3].Exs))
	}
}

// The general words: the answer shares no memory with the flat plan, and no two lists of it share any.
func TestSimplifyNewMemory(t *testing.T) {
	db := smallDb()
	flats := append(kindsOfFlats(),
		flat(fScan(0), fScan(1), fMark(1, col(0), 0, 1), fSelect(col(2), 2), fMap(3, col(0), lit(4))),
		flat(fScan(0), fScan(1), fMark(1, col(0), 0, 1), fSelect(ex(op(impl.XCol, 2), op(impl.XNot, 0)), 2)),
	)
	for i, f := range flats {
		f = cloneFlat(f)
		keep := cloneFlat(f)
		first, _ := impl.Simplify(f, db)
		want := cloneFlat(first)
		second, _ := impl.Simplify(f, db)
		noSharedExs(t, "a simple plan", second)
		scribble(second)
		if !sameFlat(f, keep) {
			t.Errorf("flat plan %d: an answer shares memory with it", i)
		}
		if !sameFlat(first, want) {
			t.Errorf("flat plan %d: two answers share memory", i)
		}
	}
	// One expression that two nodes of the argument share is two in the answer.
	x := col(0)
	f := flat(fScan(0), fSelect(x, 0), fSelect(x, 1), fMap(2, x, x))
	out, _ := impl.Simplify(f, db)
	noSharedExs(t, "a simple plan of one expression", out)
}
