package tests

import (
	"math/rand"
	"testing"

	"loop.example/s0035/impl"
)

func nScan(table int) impl.PNode {
	return impl.PNode{K: impl.PScan, T: table}
}

func nSelect(l int, x ...[]impl.Op) impl.PNode {
	return impl.PNode{K: impl.PSelect, L: l, Ex: inRow(x...)}
}

func nMap(l int, xs ...[]impl.Op) impl.PNode {
	return impl.PNode{K: impl.PMap, L: l, Exs: xs}
}

func nCross(l int, r int) impl.PNode {
	return impl.PNode{K: impl.PCross, L: l, R: r}
}

func nMark(l int, r int, x ...[]impl.Op) impl.PNode {
	return impl.PNode{K: impl.PMark, L: l, R: r, Ex: inRow(x...)}
}

func nAgg(m int, l int, r int, x ...[]impl.Op) impl.PNode {
	return impl.PNode{K: impl.PAgg, M: m, L: l, R: r, Ex: inRow(x...)}
}

func nDistinct(l int) impl.PNode {
	return impl.PNode{K: impl.PDistinct, L: l}
}

func nUnion(l int, r int) impl.PNode {
	return impl.PNode{K: impl.PUnion, L: l, R: r}
}

// inRow puts expressions behind each other.
func inRow(xs ...[]impl.Op) []impl.Op {
	var out []impl.Op
	for _, x := range xs {
		out = append(out, x...)
	}
	return out
}

// word is an Op that uses no N, comp is a comparison.
func word(k int) []impl.Op {
	return ex(op(k, 0))
}

func comp(c int64) []impl.Op {
	return ex(op(impl.XCmp, c))
}

// plans asks for exactly these nodes over smallDb: r has 2 columns and is at place 0, s and none have 1 and are at 1
// and 2.
func plans(t *testing.T, text string, nodes ...impl.PNode) {
	t.Helper()
	a := shapeOf(t, text).ast()
	if p, code := impl.Translate(a, smallDb()); code != 0 || !samePlan(p, impl.Plan{Nodes: nodes}) {
		t.Errorf("%s: code %d, plan %v\nwant %v", text, code, p.Nodes, nodes)
	}
	wantTranslate(t, text, a, smallDb())
}

// Promise 13, the example of the document.
func TestTranslateExample(t *testing.T) {
	plans(t, "SELECT r.1 FROM r WHERE r.2 IN (SELECT s.1 FROM s WHERE s.1 <> r.1)",
		nScan(0),
		nScan(1),
		nSelect(1, col(2), col(0), comp(2)),
		nMap(2, col(2)),
		nMark(0, 3, col(1), col(2), comp(1)),
		nSelect(4, col(2)),
		nMap(5, col(0)),
	)
}

// Promise 13, selects: their scalars, DISTINCT, several sources, UNION ALL.
func TestTranslateSelects(t *testing.T) {
	plans(t, "SELECT 7, NULL, r.2, -3, r.1 FROM r",
		nScan(0), nMap(0, lit(7), word(impl.XNull), col(1), lit(-3), col(0)))
	plans(t, "SELECT DISTINCT r.1 FROM r", nScan(0), nMap(0, col(0)), nDistinct(1))
	plans(t, "SELECT r.2, none.1, s.1 FROM none, r, s",
		nScan(2), nScan(0), nCross(0, 1), nScan(1), nCross(2, 3), nMap(4, col(2), col(0), col(3)))
	plans(t, "SELECT b.1, a.2 FROM r a, s b, r c WHERE c.1 = a.1",
		nScan(0), nScan(1), nCross(0, 1), nScan(0), nCross(2, 3),
		nSelect(4, col(3), col(0), comp(1)),
		nMap(5, col(2), col(1)))
	plans(t, "SELECT r.1 FROM r UNION ALL SELECT s.1 FROM s", nScan(0), nMap(0, col(0)), nScan(1), nMap(2, col(0)), nUnion(1, 3))
	plans(t, "SELECT r.1 FROM r UNION ALL SELECT DISTINCT s.1 FROM s UNION ALL SELECT 3 FROM none",
		nScan(0), nMap(0, col(0)),
		nScan(1), nMap(2, col(0)), nDistinct(3),
		nUnion(1, 4),
		nScan(2), nMap(6, lit(3)),
		nUnion(5, 7))
}

// Promise 13, conds: an AND is taken apart, every other cond is one.
func TestTranslateConds(t *testing.T) {
	one, two, three := is(col(0), 1, lit(1)), is(col(1), 1, lit(2)), is(col(0), 1, lit(3))
	and, or, not, isNull := word(impl.XAnd), word(impl.XOr), word(impl.XNot), word(impl.XIsNull)
	start := "SELECT 1 FROM r WHERE "
	plans(t, start+"r.1 = 1 AND r.2 = 2 AND r.1 = 3",
		nScan(0), nSelect(0, one), nSelect(1, two), nSelect(2, three), nMap(3, lit(1)))
	plans(t, start+"(r.1 = 1 AND r.2 = 2) AND r.1 = 3",
		nScan(0), nSelect(0, one, two, and), nSelect(1, three), nMap(2, lit(1)))
	plans(t, start+"r.1 = 1 AND (r.2 = 2 AND r.1 = 3 AND r.1 = 1)",
		nScan(0), nSelect(0, one), nSelect(1, two, three, and, one, and), nMap(2, lit(1)))
	plans(t, start+"r.1 = 1", nScan(0), nSelect(0, one), nMap(1, lit(1)))
	plans(t, start+"r.1 = 1 OR r.2 = 2 OR r.1 = 3", nScan(0), nSelect(0, one, two, or, three, or), nMap(1, lit(1)))
	plans(t, start+"r.1 = 1 OR (r.2 = 2 OR r.1 = 3)", nScan(0), nSelect(0, one, two, three, or, or), nMap(1, lit(1)))
	plans(t, start+"r.1 = 1 OR r.2 = 2 AND r.1 = 3 AND r.2 = 2",
		nScan(0), nSelect(0, one, two, three, and, two, and, or), nMap(1, lit(1)))
	plans(t, start+"NOT (r.1 = 1 AND r.2 = 2)", nScan(0), nSelect(0, one, two, and, not), nMap(1, lit(1)))
	plans(t, start+"NOT NOT r.1 = 1", nScan(0), nSelect(0, one, not, not), nMap(1, lit(1)))
	plans(t, start+"r.2 IS NULL", nScan(0), nSelect(0, col(1), isNull), nMap(1, lit(1)))
	plans(t, start+"r.2 IS NOT NULL AND NOT NULL IS NULL",
		nScan(0), nSelect(0, col(1), isNull, not), nSelect(1, word(impl.XNull), isNull, not), nMap(2, lit(1)))
	for c := int64(1); c <= 6; c++ {
		plans(t, start+"r.1 "+opText(int(c))+" r.2", nScan(0), nSelect(0, col(0), col(1), comp(c)), nMap(1, lit(1)))
	}
}

// Promise 13, aggregates: with and without an argument, in scalars, in conds, in one another.
func TestTranslateAggregates(t *testing.T) {
	plans(t, "SELECT r.1, (SELECT COUNT(*) FROM s WHERE s.1 = r.2) FROM r",
		nScan(0), nScan(1), nSelect(1, col(2), col(1), comp(1)), nAgg(1, 0, 2), nMap(3, col(0), col(2)))
	for m, name := range []string{"COUNT", "MIN", "MAX"} {
		plans(t, "SELECT ( SELECT "+name+"(s.1) FROM s ) FROM r", nScan(0), nScan(1), nAgg(m+2, 0, 1, col(2)), nMap(2, col(2)))
		plans(t, "SELECT ( SELECT "+name+"(r.2) FROM s ) FROM r", nScan(0), nScan(1), nAgg(m+2, 0, 1, col(1)), nMap(2, col(2)))
		plans(t, "SELECT ( SELECT "+name+"(NULL) FROM s ) FROM r",
			nScan(0), nScan(1), nAgg(m+2, 0, 1, word(impl.XNull)), nMap(2, col(2)))
	}
	plans(t, "SELECT (SELECT COUNT(*) FROM s), r.2, (SELECT COUNT(*) FROM none) FROM r",
		nScan(0), nScan(1), nAgg(1, 0, 1), nScan(2), nAgg(1, 2, 3), nMap(4, col(2), col(1), col(3)))
	plans(t, "SELECT 1 FROM r WHERE (SELECT MIN(s.1) FROM s) < (SELECT MAX(s.1) FROM s)",
		nScan(0), nScan(1), nAgg(3, 0, 1, col(2)), nScan(1), nAgg(4, 2, 3, col(3)),
		nSelect(4, col(2), col(3), comp(3)), nMap(5, lit(1)))
	plans(t, "SELECT (SELECT MAX(a.2) FROM s, r a WHERE a.1 = 1 AND s.1 = r.1) FROM r",
		nScan(0), nScan(1), nScan(0), nCross(1, 2),
		nSelect(3, col(3), lit(1), comp(1)), nSelect(4, col(2), col(0), comp(1)),
		nAgg(4, 0, 5, col(4)), nMap(6, col(2)))
}

// Promise 13, an argument of an aggregate that is an aggregate itself adds its column to the inner block.
func TestTranslateArguments(t *testing.T) {
	plans(t, "SELECT (SELECT MAX((SELECT COUNT(s.1) FROM s WHERE s.1 < a.2)) FROM r a) FROM r",
		nScan(0), nScan(0), nScan(1),
		nSelect(2, col(4), col(3), comp(3)),
		nAgg(2, 1, 3, col(4)),
		nAgg(4, 0, 4, col(4)),
		nMap(5, col(2)))
	plans(t, "SELECT (SELECT MIN((SELECT MAX(s.1) FROM s)) FROM s b WHERE EXISTS (SELECT 1 FROM none)) FROM r",
		nScan(0), nScan(1), nScan(2),
		nMap(2, lit(1)), nMark(1, 3, lit(1)), nSelect(4, col(3)),
		nScan(1), nAgg(4, 5, 6, col(4)),
		nAgg(3, 0, 7, col(4)),
		nMap(8, col(2)))
	plans(t, "SELECT (SELECT MIN((SELECT MAX((SELECT COUNT(*) FROM none)) FROM s)) FROM s) FROM s",
		nScan(1), nScan(1), nScan(1), nScan(2),
		nAgg(1, 2, 3), nAgg(4, 1, 4, col(3)), nAgg(3, 0, 5, col(2)), nMap(6, col(1)))
}

// Promise 13, EXISTS, IN and NOT IN.
func TestTranslateMarks(t *testing.T) {
	not := word(impl.XNot)
	plans(t, "SELECT r.1 FROM r WHERE EXISTS (SELECT s.1, r.1 FROM s)",
		nScan(0), nScan(1), nMap(1, col(2), col(0)), nMark(0, 2, lit(1)), nSelect(3, col(2)), nMap(4, col(0)))
	plans(t, "SELECT r.1 FROM r WHERE NOT EXISTS (SELECT DISTINCT s.1 FROM s)",
		nScan(0), nScan(1), nMap(1, col(2)), nDistinct(2), nMark(0, 3, lit(1)), nSelect(4, col(2), not), nMap(5, col(0)))
	plans(t, "SELECT r.1 FROM r WHERE r.2 NOT IN (SELECT s.1 FROM s)",
		nScan(0), nScan(1), nMap(1, col(2)), nMark(0, 2, col(1), col(2), comp(1)), nSelect(3, col(2), not), nMap(4, col(0)))
	plans(t, "SELECT r.1 FROM r WHERE NOT r.2 NOT IN (SELECT s.1 FROM s)",
		nScan(0), nScan(1), nMap(1, col(2)), nMark(0, 2, col(1), col(2), comp(1)), nSelect(3, col(2), not, not), nMap(4, col(0)))
	plans(t, "SELECT 1 FROM r WHERE NULL IN (SELECT s.1 FROM s UNION ALL SELECT 5 FROM none UNION ALL SELECT r.2 FROM s)",
		nScan(0), nScan(1), nMap(1, col(2)), nScan(2), nMap(3, lit(5)), nUnion(2, 4), nScan(1), nMap(6, col(1)), nUnion(5, 7),
		nMark(0, 8, word(impl.XNull), col(2), comp(1)), nSelect(9, col(2)), nMap(10, lit(1)))
	// The scalar adds its column first.
	plans(t, "SELECT 1 FROM r WHERE (SELECT COUNT(*) FROM s) IN (SELECT s.1 FROM s)",
		nScan(0), nScan(1), nAgg(1, 0, 1), nScan(1), nMap(3, col(3)),
		nMark(2, 4, col(2), col(3), comp(1)), nSelect(5, col(3)), nMap(6, lit(1)))
	plans(t, "SELECT 1 FROM r WHERE EXISTS (SELECT 1 FROM s) AND NOT EXISTS (SELECT 2 FROM none WHERE none.1 = r.1)",
		nScan(0), nScan(1), nMap(1, lit(1)), nMark(0, 2, lit(1)), nSelect(3, col(2)),
		nScan(2), nSelect(5, col(3), col(0), comp(1)), nMap(6, lit(2)), nMark(4, 7, lit(1)), nSelect(8, col(3), not),
		nMap(9, lit(1)))
	plans(t, "SELECT 1 FROM r WHERE EXISTS (SELECT 1 FROM s) OR r.1 = 1 AND r.2 IN (SELECT s.1 FROM s)",
		nScan(0), nScan(1), nMap(1, lit(1)), nMark(0, 2, lit(1)), nScan(1), nMap(4, col(3)),
		nMark(3, 5, col(1), col(3), comp(1)),
		nSelect(6, col(2), col(0), lit(1), comp(1), col(3), word(impl.XAnd), word(impl.XOr)), nMap(7, lit(1)))
}

// Promise 13, ANY and ALL with each of the comparisons.
func TestTranslateQuantors(t *testing.T) {
	opposite := map[int64]int64{1: 2, 2: 1, 3: 6, 4: 5, 5: 4, 6: 3}
	for c := int64(1); c <= 6; c++ {
		text := "SELECT r.1 FROM r WHERE r.2 " + opText(int(c))
		plans(t, text+" ANY (SELECT s.1 FROM s)",
			nScan(0), nScan(1), nMap(1, col(2)), nMark(0, 2, col(1), col(2), comp(c)), nSelect(3, col(2)), nMap(4, col(0)))
		plans(t, text+" ALL (SELECT s.1 FROM s)",
			nScan(0), nScan(1), nMap(1, col(2)), nMark(0, 2, col(1), col(2), comp(opposite[c])),
			nSelect(3, col(2), word(impl.XNot)), nMap(4, col(0)))
		plans(t, "SELECT 1 FROM r WHERE (SELECT COUNT(*) FROM none) "+opText(int(c))+" ALL (SELECT s.1 FROM s)",
			nScan(0), nScan(2), nAgg(1, 0, 1), nScan(1), nMap(3, col(3)), nMark(2, 4, col(2), col(3), comp(opposite[c])),
			nSelect(5, col(3), word(impl.XNot)), nMap(6, lit(1)))
	}
}

// Promise 13, subqueries inside subqueries: the environment grows by the whole row of the outer block, with the
// columns that were added.
func TestTranslateNested(t *testing.T) {
	plans(t, "SELECT r.1 FROM r WHERE EXISTS (SELECT 1 FROM s WHERE s.1 IN (SELECT x.2 FROM r x WHERE x.1 = r.1 AND x.2 > s.1))",
		nScan(0), nScan(1), nScan(0),
		nSelect(2, col(3), col(0), comp(1)), nSelect(3, col(4), col(2), comp(5)), nMap(4, col(4)),
		nMark(1, 5, col(2), col(3), comp(1)), nSelect(6, col(3)), nMap(7, lit(1)),
		nMark(0, 8, lit(1)), nSelect(9, col(2)), nMap(10, col(0)))
	plans(t, "SELECT 1 FROM s WHERE EXISTS (SELECT 1 FROM none) AND (SELECT COUNT(*) FROM r WHERE EXISTS (SELECT s.1 FROM s x WHERE x.1 = r.2)) = 2",
		nScan(1), nScan(2), nMap(1, lit(1)), nMark(0, 2, lit(1)), nSelect(3, col(1)),
		nScan(0), nScan(1), nSelect(6, col(4), col(3), comp(1)), nMap(7, col(0)),
		nMark(5, 8, lit(1)), nSelect(9, col(4)),
		nAgg(1, 4, 10), nSelect(11, col(2), lit(2), comp(1)), nMap(12, lit(1)))
	// The subqueries of a select's scalars see the columns that its cond has added in front of theirs.
	plans(t, "SELECT (SELECT MIN(s.1) FROM s), (SELECT MAX(r.2) FROM s) FROM r WHERE EXISTS (SELECT 1 FROM s)",
		nScan(0), nScan(1), nMap(1, lit(1)), nMark(0, 2, lit(1)), nSelect(3, col(2)),
		nScan(1), nAgg(3, 4, 5, col(3)), nScan(1), nAgg(4, 6, 7, col(1)), nMap(8, col(3), col(4)))
	plans(t, "SELECT 1 FROM s WHERE 1 IN (SELECT (SELECT COUNT(*) FROM r WHERE r.1 = b.1 AND r.2 = s.1) FROM none b UNION ALL SELECT s.1 FROM r)",
		nScan(1), nScan(2), nScan(0), nSelect(2, col(2), col(1), comp(1)), nSelect(3, col(3), col(0), comp(1)),
		nAgg(1, 1, 4), nMap(5, col(2)), nScan(0), nMap(7, col(0)), nUnion(6, 8),
		nMark(0, 9, lit(1), col(1), comp(1)), nSelect(10, col(1)), nMap(11, lit(1)))
}

// Promise 13, what a name stands for: an inner block hides an outer one as far as it goes, and no further.
func TestTranslateNames(t *testing.T) {
	plans(t, "SELECT s.2, r.1 FROM r s, s r", nScan(0), nScan(1), nCross(0, 1), nMap(2, col(1), col(2)))
	plans(t, "SELECT 1 FROM r WHERE EXISTS (SELECT r.1 FROM s r WHERE r.1 = 1)",
		nScan(0), nScan(1), nSelect(1, col(2), lit(1), comp(1)), nMap(2, col(2)), nMark(0, 3, lit(1)), nSelect(4, col(2)),
		nMap(5, lit(1)))
	plans(t, "SELECT 1 FROM r WHERE EXISTS (SELECT r.2 FROM s x WHERE r.1 = 1)",
		nScan(0), nScan(1), nSelect(1, col(0), lit(1), comp(1)), nMap(2, col(1)), nMark(0, 3, lit(1)), nSelect(4, col(2)),
		nMap(5, lit(1)))
	// Behind the inner block the name is the outer one again, and in front of it too.
	plans(t, "SELECT r.2 FROM r WHERE r.2 IN (SELECT r.1 FROM s r) AND r.2 = 1",
		nScan(0), nScan(1), nMap(1, col(2)), nMark(0, 2, col(1), col(2), comp(1)), nSelect(3, col(2)),
		nSelect(4, col(1), lit(1), comp(1)), nMap(5, col(1)))
	// The block in the middle hides the outer one from the innermost.
	plans(t, "SELECT 1 FROM r x WHERE EXISTS (SELECT 1 FROM s x WHERE EXISTS (SELECT x.1 FROM r y))",
		nScan(0), nScan(1), nScan(0), nMap(2, col(2)), nMark(1, 3, lit(1)), nSelect(4, col(3)), nMap(5, lit(1)),
		nMark(0, 6, lit(1)), nSelect(7, col(2)), nMap(8, lit(1)))
	// Two blocks beside each other may have the same names.
	plans(t, "SELECT (SELECT MIN(x.1) FROM s x), (SELECT MIN(x.2) FROM r x) FROM none",
		nScan(2), nScan(1), nAgg(3, 0, 1, col(1)), nScan(0), nAgg(3, 2, 3, col(3)), nMap(4, col(1), col(2)))
	plans(t, "SELECT x.1 FROM s x UNION ALL SELECT x.2 FROM r x", nScan(1), nMap(0, col(0)), nScan(0), nMap(2, col(1)), nUnion(1, 3))
	// An aggregate hides names in its argument and in its cond, but not in what stands beside it.
	plans(t, "SELECT (SELECT MAX(r.1) FROM s r WHERE r.1 = 2), r.2 FROM r",
		nScan(0), nScan(1), nSelect(1, col(2), lit(2), comp(1)), nAgg(4, 0, 2, col(2)), nMap(3, col(2), col(1)))
}

// Promise 13: queries by chance, with and without faults, against the document's words.
func TestTranslateByChance(t *testing.T) {
	r := rand.New(rand.NewSource(13))
	codes := map[int]int{}
	for round := 0; round < 30000; round++ {
		g := asker{r: r, db: chanceDb(r), wild: []int{0, 40, 15}[round%3]}
		a := g.ast(r.Intn(5))
		codes[wantTranslate(t, impl.Print(a), a, g.db)]++
		if t.Failed() {
			return
		}
	}
	for _, code := range []int{0, 11, 12, 13, 14, 15, 16, 18} {
		if codes[code] < 80 {
			t.Errorf("code %d came %d times: too few to tell", code, codes[code])
		}
	}
}

// noSharedPlan asks that no two expressions of a plan share memory.
func noSharedPlan(t *testing.T, what string, p impl.Plan) {
	t.Helper()
	f := impl.Flat{}
	for _, n := range p.Nodes {
		f.Nodes = append(f.Nodes, impl.FNode{Ex: n.Ex, Exs: n.Exs})
	}
	noSharedExs(t, what, f)
}

// Promise 13: a plan is new memory.
func TestTranslateNewMemory(t *testing.T) {
	r := rand.New(rand.NewSource(14))
	for round := 0; round < 600; round++ {
		g := asker{r: r, db: chanceDb(r)}
		a := g.ast(4)
		keepAst, keepDb := cloneAst(a), cloneDb(g.db)
		first, code := impl.Translate(a, g.db)
		want := clonePlan(first)
		second, again := impl.Translate(a, g.db)
		if code != again || !samePlan(first, second) {
			t.Errorf("%s: a second time gives %d %v, not %d %v", impl.Print(a), again, second, code, want)
		}
		noSharedPlan(t, impl.Print(a), second)
		for i := range second.Nodes {
			second.Nodes[i] = impl.PNode{K: 99}
		}
		if !samePlan(first, want) || !sameAst(a, keepAst) || !sameDb(g.db, keepDb) {
			t.Errorf("%s: a plan shares memory with another one or with an argument", impl.Print(a))
		}
	}
}
