package tests

import (
	"math/rand"
	"strconv"
	"strings"
	"testing"

	"loop.example/s0035/impl"
)

// codeOf asks for the code of Translate, and for nothing beside one that is not 0.
func codeOf(t *testing.T, text string, db impl.Db, want int) {
	t.Helper()
	wantAstCode(t, text, shapeOf(t, text).ast(), db, want)
}

func wantAstCode(t *testing.T, what string, a impl.Ast, db impl.Db, want int) {
	t.Helper()
	p, code := impl.Translate(a, db)
	if code != want || (code == 0) != (len(p.Nodes) > 0) {
		t.Errorf("%.300s: code %d with %d nodes, not %d", what, code, len(p.Nodes), want)
	}
}

// Promise 13, code 11: a source is found by the name of a table alone.
func TestTranslateTables(t *testing.T) {
	for text, want := range map[string]int{
		"SELECT 1 FROM r":             0,
		"SELECT 1 FROM R":             11,
		"SELECT 1 FROM rr":            11,
		"SELECT 1 FROM x r":           11,
		"SELECT 1 FROM r x, x y":      11,
		"SELECT 1 FROM r, s, none, t": 11,
		"SELECT 1 FROM r UNION ALL SELECT 1 FROM s UNION ALL SELECT 1 FROM t": 11,
		"SELECT 1 FROM r WHERE EXISTS (SELECT 1 FROM t)":                      11,
		"SELECT 1 FROM r WHERE 1 IN (SELECT 1 FROM t)":                        11,
		"SELECT 1 FROM r WHERE 1 < ALL (SELECT 1 FROM t)":                     11,
		"SELECT 1 FROM r t WHERE EXISTS (SELECT 1 FROM t)":                    11,
		"SELECT (SELECT COUNT(*) FROM t) FROM r":                              11,
		"SELECT (SELECT COUNT((SELECT MIN(1) FROM t)) FROM r) FROM r":         11,
		"SELECT 1 FROM r WHERE (SELECT MAX(1) FROM s, t) = 1":                 11,
	} {
		codeOf(t, text, smallDb(), want)
	}
	codeOf(t, "SELECT 1 FROM r", impl.Db{}, 11)
	// The last of the most tables, and a name of the most bytes.
	db := manyTables(impl.MaxTables)
	long := strings.Repeat("n", impl.MaxName)
	db.Tables[49].Name = long
	p, code := impl.Translate(shapeOf(t, "SELECT "+long+".1 FROM t0, "+long+", t48").ast(), db)
	want := impl.Plan{Nodes: []impl.PNode{nScan(0), nScan(49), nCross(0, 1), nScan(48), nCross(2, 3), nMap(4, col(1))}}
	if code != 0 || !samePlan(p, want) {
		t.Errorf("code %d, plan %v", code, p.Nodes)
	}
	codeOf(t, "SELECT 1 FROM t49", db, 11)
	codeOf(t, "SELECT 1 FROM "+long[1:], db, 11)
}

// Promise 13, code 12: the sources of one block, and not of two, must differ in the names that they are known as.
func TestTranslateSameNames(t *testing.T) {
	for text, want := range map[string]int{
		"SELECT 1 FROM r, r":                                        12,
		"SELECT 1 FROM r, s r":                                      12,
		"SELECT 1 FROM s r, r":                                      12,
		"SELECT 1 FROM r a, s b, none a":                            12,
		"SELECT 1 FROM r b, s a, none a":                            12,
		"SELECT 1 FROM r a, s a, none b WHERE b.1 = 1":              12,
		"SELECT 1 FROM r a, r b":                                    0,
		"SELECT 1 FROM r a, r A":                                    0,
		"SELECT 1 FROM r, r s":                                      0,
		"SELECT 1 FROM r s, s r":                                    0,
		"SELECT 1 FROM r WHERE EXISTS (SELECT 1 FROM r)":            0,
		"SELECT (SELECT COUNT(*) FROM r) FROM r":                    0,
		"SELECT 1 FROM r a UNION ALL SELECT 1 FROM s a":             0,
		"SELECT 1 FROM r WHERE EXISTS (SELECT 1 FROM s, s)":         12,
		"SELECT 1 FROM r UNION ALL SELECT 1 FROM s, s":              12,
		"SELECT (SELECT COUNT(*) FROM s, s) FROM r":                 12,
		"SELECT (SELECT MIN(1) FROM s, s WHERE 1 = 1) FROM r":       12,
		"SELECT 1 FROM r WHERE 1 = ANY (SELECT 1 FROM none a, s a)": 12,
	} {
		codeOf(t, text, smallDb(), want)
	}
}

// Promise 13, code 13: a name is known in its block and further in, and nowhere else.
func TestTranslateUnknownNames(t *testing.T) {
	for text, want := range map[string]int{
		"SELECT x.1 FROM r":                                                                    13,
		"SELECT R.1 FROM r":                                                                    13,
		"SELECT r.1 FROM r x":                                                                  13,
		"SELECT s.1 FROM r":                                                                    13,
		"SELECT 1 FROM r WHERE s.1 = 1":                                                        13,
		"SELECT 1 FROM r WHERE 1 = s.1":                                                        13,
		"SELECT 1 FROM r WHERE s.1 IS NULL":                                                    13,
		"SELECT 1 FROM r WHERE 1 = 1 OR NOT (1 = 1 AND s.1 = 1)":                               13,
		"SELECT s.1 FROM r WHERE EXISTS (SELECT 1 FROM s)":                                     13,
		"SELECT 1 FROM r WHERE EXISTS (SELECT 1 FROM s) AND s.1 = 1":                           13,
		"SELECT 1 FROM r WHERE s.1 IN (SELECT 1 FROM s)":                                       13,
		"SELECT 1 FROM r WHERE s.1 >= ALL (SELECT 1 FROM s)":                                   13,
		"SELECT 1 FROM r WHERE r.1 IN (SELECT r.1 FROM s)":                                     0,
		"SELECT (SELECT MIN(s.1) FROM s), s.1 FROM r":                                          13,
		"SELECT (SELECT MIN(r.1) FROM s) FROM r":                                               0,
		"SELECT (SELECT MIN(1) FROM s WHERE r.1 = 1) FROM r":                                   0,
		"SELECT (SELECT MIN((SELECT MAX(s.1) FROM none)) FROM s WHERE none.1 = 1) FROM r":      13,
		"SELECT (SELECT MIN((SELECT MAX(s.1) FROM none WHERE r.1 = none.1)) FROM s) FROM r":    0,
		"SELECT a.1 FROM r a UNION ALL SELECT a.1 FROM s b":                                    13,
		"SELECT b.1 FROM r a UNION ALL SELECT b.1 FROM s b":                                    13,
		"SELECT 1 FROM r WHERE EXISTS (SELECT x.1 FROM s x) AND EXISTS (SELECT x.1 FROM s)":    13,
		"SELECT 1 FROM r WHERE EXISTS (SELECT x.1 FROM s) AND EXISTS (SELECT x.1 FROM s x)":    13,
		"SELECT 1 FROM r WHERE EXISTS (SELECT 1 FROM s WHERE EXISTS (SELECT r.1 FROM none))":   0,
		"SELECT 1 FROM r WHERE EXISTS (SELECT n.1 FROM s WHERE EXISTS (SELECT 1 FROM none n))": 13,
		"SELECT 1 FROM r WHERE EXISTS (SELECT s.1 FROM s UNION ALL SELECT s.1 FROM none)":      13,
		"SELECT 1 FROM r WHERE EXISTS (SELECT r.1 FROM s UNION ALL SELECT r.2 FROM none)":      0,
	} {
		codeOf(t, text, smallDb(), want)
	}
}

// Promise 13, code 14: the numbers of columns, of the source that the name stands for and no other one.
func TestTranslateColumns(t *testing.T) {
	for number, want := range map[string]int{
		"0": 14, "1": 0, "2": 0, "3": 14, "17": 14, "001": 0, "-0": 14, "999999999999999999": 14, "000000000000000002": 0,
	} {
		for _, text := range []string{
			"SELECT r.# FROM r", "SELECT x.# FROM s, r x", "SELECT 1 FROM r WHERE r.# = 1", "SELECT 1 FROM r WHERE r.# IS NULL",
			"SELECT 1 FROM r WHERE r.# IN (SELECT 1 FROM s)", "SELECT 1 FROM r WHERE 1 < ANY (SELECT r.# FROM s)",
			"SELECT (SELECT MAX(r.#) FROM r) FROM s", "SELECT (SELECT COUNT(*) FROM s WHERE s.1 = r.#) FROM r",
			"SELECT 1 FROM s r WHERE EXISTS (SELECT 1 FROM r WHERE r.# = 1)",
		} {
			codeOf(t, strings.Replace(text, "#", number, 1), smallDb(), want)
		}
	}
	for text, want := range map[string]int{
		"SELECT 1 FROM r WHERE EXISTS (SELECT r.2 FROM s r)":                                14,
		"SELECT 1 FROM s r WHERE EXISTS (SELECT r.2 FROM r)":                                0,
		"SELECT 1 FROM r WHERE r.2 IN (SELECT r.1 FROM s r)":                                0,
		"SELECT 1 FROM s r WHERE r.2 IN (SELECT r.2 FROM r)":                                14,
		"SELECT r.2 FROM r WHERE EXISTS (SELECT 1 FROM s r)":                                0,
		"SELECT 1 FROM r WHERE EXISTS (SELECT 1 FROM s r WHERE EXISTS (SELECT r.2 FROM s))": 14,
		"SELECT 1 FROM r WHERE EXISTS (SELECT 1 FROM s WHERE EXISTS (SELECT r.2 FROM s r))": 14,
		"SELECT 1 FROM r WHERE EXISTS (SELECT 1 FROM s WHERE EXISTS (SELECT r.2 FROM s))":   0,
		"SELECT s.2, r.1 FROM r s, s r":                                                     0,
		"SELECT s.1, r.2 FROM r s, s r":                                                     14,
		"SELECT r.2 FROM r UNION ALL SELECT r.2 FROM s r":                                   14,
	} {
		codeOf(t, text, smallDb(), want)
	}
	db := wideDb()
	codeOf(t, "SELECT a.16 FROM a", db, 0)
	codeOf(t, "SELECT a.17 FROM a", db, 14)
	codeOf(t, "SELECT a.9 FROM b a", db, 14)
}

// Promise 13, codes 15 and 16: the columns of queries.
func TestTranslateQueryColumns(t *testing.T) {
	for query, want := range map[string]int{
		"SELECT 1 FROM s":                                                                0,
		"SELECT 1, 2 FROM s":                                                             15,
		"SELECT DISTINCT 1, 2, 3 FROM s":                                                 15,
		"SELECT 1 FROM s UNION ALL SELECT 2 FROM s":                                      0,
		"SELECT 1, 2 FROM s UNION ALL SELECT 1, 2 FROM s":                                15,
		"SELECT 1, 2 FROM s UNION ALL SELECT 1 FROM s":                                   15,
		"SELECT 1 FROM s UNION ALL SELECT 1, 2 FROM s":                                   16,
		"SELECT 1 FROM s UNION ALL SELECT 1 FROM s UNION ALL SELECT 1, 2 FROM s":         16,
		"SELECT 1 FROM s UNION ALL SELECT 1, 2 FROM s UNION ALL SELECT 1 FROM s":         16,
		"SELECT 1 FROM s WHERE EXISTS (SELECT 1, 2 FROM s)":                              0,
		"SELECT 1 FROM s WHERE 1 IN (SELECT 1, 2 FROM s)":                                15,
		"SELECT 1 FROM s WHERE EXISTS (SELECT 1 FROM s UNION ALL SELECT 1, 1 FROM none)": 16,
	} {
		for _, test := range []string{"1 IN", "r.2 NOT IN", "1 = ANY", "NULL < ANY", "r.1 > ALL", "(SELECT COUNT(*) FROM s) <> ALL"} {
			codeOf(t, "SELECT 1, 2 FROM r WHERE "+test+" ("+query+")", smallDb(), want)
			codeOf(t, "SELECT (SELECT COUNT(*) FROM r WHERE "+test+" ("+query+")) FROM s", smallDb(), want)
			codeOf(t, "SELECT 1 FROM s WHERE EXISTS (SELECT 3, 4, 5 FROM r WHERE NOT "+test+" ("+query+"))", smallDb(), want)
		}
	}
	for text, want := range map[string]int{
		"SELECT 1, 2 FROM s UNION ALL SELECT 3, 4 FROM s":                                0,
		"SELECT 1, 2 FROM s UNION ALL SELECT 3 FROM s":                                   16,
		"SELECT 1 FROM s UNION ALL SELECT 3, 4 FROM s":                                   16,
		"SELECT 1 FROM s UNION ALL SELECT 3, 4 FROM s UNION ALL SELECT 5, 6 FROM s":      16,
		"SELECT 1, 2 FROM s UNION ALL SELECT 3, 4 FROM s UNION ALL SELECT 6 FROM s":      16,
		"SELECT 1, 2 FROM s UNION ALL SELECT 3 FROM s UNION ALL SELECT 5, 6 FROM s":      16,
		"SELECT 1 FROM s WHERE EXISTS (SELECT 1 FROM s UNION ALL SELECT r.1, 2 FROM r)":  16,
		"SELECT 1 FROM s WHERE EXISTS (SELECT 1, 3 FROM s UNION ALL SELECT 1, 2 FROM r)": 0,
	} {
		codeOf(t, text, smallDb(), want)
	}
}

// numbersFrom is a list of that many numbers.
func numbersFrom(many int) string {
	return strings.TrimSuffix(strings.Repeat("1,", many), ",")
}

// faultConds are conds over smallDb that are wrong in one way each, by their codes.
func faultConds() map[int]string {
	return map[int]string{
		11: "EXISTS (SELECT 1 FROM nowhere)",
		12: "EXISTS (SELECT 1 FROM s x, s x)",
		13: "nobody.1 = 1",
		14: "r.3 IS NULL",
		15: "1 NOT IN (SELECT 1, 2 FROM s)",
		16: "EXISTS (SELECT 1 FROM s UNION ALL SELECT 1, 2 FROM s)",
		17: "EXISTS (SELECT " + numbersFrom(impl.MaxWidth) + " FROM s)",
		18: "EXISTS (SELECT 1 FROM r a, r b, r c, r d, r e)",
	}
}

// Promise 13: of several faults the one with the smallest code speaks, wherever it stands.
func TestTranslateSmallestCode(t *testing.T) {
	conds := faultConds()
	frames := []string{
		"SELECT 1 FROM r WHERE #", "SELECT 1 FROM r WHERE 1 = 2 OR NOT (#)",
		"SELECT 1 FROM s WHERE EXISTS (SELECT 1 FROM r WHERE #)",
		"SELECT (SELECT MIN(r.1) FROM r WHERE #) FROM s",
		"SELECT 1 FROM s UNION ALL SELECT 2 FROM r WHERE #",
	}
	for set := 0; set < 1<<8; set++ {
		var up, down []string
		want := 0
		for code := 18; code >= 11; code-- {
			if set>>(code-11)&1 == 1 {
				up, down = append([]string{conds[code]}, up...), append(down, conds[code])
				want = code
			}
		}
		for _, list := range [][]string{up, down} {
			cond := strings.Join(append(list, "2 = 2"), " AND ")
			for _, frame := range frames {
				codeOf(t, strings.Replace(frame, "#", cond, 1), smallDb(), want)
			}
		}
	}
	// In two selects of a union, and in two blocks of which one is in the other.
	for first, one := range conds {
		for second, two := range conds {
			codeOf(t, "SELECT 1 FROM r WHERE "+one+" UNION ALL SELECT 1 FROM r WHERE "+two, smallDb(), min(first, second))
			codeOf(t, "SELECT 1 FROM r WHERE "+one+" AND EXISTS (SELECT 1 FROM r WHERE "+two+")", smallDb(), min(first, second))
		}
	}
}

// Promise 13, code 10: whatever else is wrong with the query.
func TestTranslateWrongDb(t *testing.T) {
	for what, spoil := range wrongDbs() {
		db := smallDb()
		spoil(&db)
		wantAstCode(t, what, shapeOf(t, "SELECT 1 FROM r").ast(), db, 10)
		wantAstCode(t, what, impl.Ast{}, db, 10)
		for _, cond := range faultConds() {
			wantAstCode(t, what, shapeOf(t, "SELECT 1 FROM r WHERE "+cond).ast(), db, 10)
		}
	}
}

// Promise 13, code 10: trees that are not valid.
func TestTranslateWrongAst(t *testing.T) {
	wantAstCode(t, "no nodes", impl.Ast{}, smallDb(), 10)
	wantAstCode(t, "a list of nothing", impl.Ast{Nodes: make([]impl.Node, 100)}, smallDb(), 10)
	wantAstCode(t, "too many nodes", impl.Ast{Nodes: make([]impl.Node, impl.MaxNodes+1)}, smallDb(), 10)
	wantAstCode(t, "a scalar alone", sInt(1).ast(), smallDb(), 10)
	wantAstCode(t, "a cond alone", sEq(1, 1).ast(), smallDb(), 10)
	wantAstCode(t, "no source", sSelect(0, []shape{sInt(1)}, nil).ast(), smallDb(), 10)
	wantAstCode(t, "no scalar", sSelect(0, nil, from(sSrc("r", "r"))).ast(), smallDb(), 10)
	wantAstCode(t, "a union of one", sOf(impl.KUnion, plainSelect()).ast(), smallDb(), 10)
	wantAstCode(t, "a union in a union", sOf(impl.KUnion, plainSelect(), sOf(impl.KUnion, plainSelect(), plainSelect())).ast(), smallDb(), 10)
	wantAstCode(t, "a keyword", sSelect(0, []shape{sInt(1)}, from(sSrc("NULL", "r"))).ast(), smallDb(), 10)
	wantAstCode(t, "no second name", sSelect(0, []shape{sInt(1)}, from(sSrc("r", ""))).ast(), smallDb(), 10)
	wantAstCode(t, "a scalar count too many", shape{n: impl.Node{K: impl.KSelect, N: 3}, kids: plainSelect().kids}.ast(), smallDb(), 10)
	kids := plainSelect().ast()
	for _, place := range []int{-1, 2, 3, 1 << 62} {
		kids.Nodes[2].Kids[0] = place
		wantAstCode(t, "a kid nowhere", kids, smallDb(), 10)
	}
	r := rand.New(rand.NewSource(10))
	codes := map[int]int{}
	for range 8000 {
		g := asker{r: r, db: chanceDb(r), wild: []int{0, 30}[r.Intn(2)]}
		a := g.ast(r.Intn(4))
		spoilAst(r, &a)
		codes[wantTranslate(t, "by chance", a, g.db)]++
	}
	if codes[10] < 2000 || codes[0] < 1000 {
		t.Errorf("the codes are %v: too few to tell", codes)
	}
}

// chain puts that many texts together, with another one between two.
func chain(many int, text string, between string) string {
	return strings.TrimSuffix(strings.Repeat(text+between, many), between)
}

// Promise 13, code 18: PlanWork of exactly MaxWork and of one more, wherever it comes from.
func TestTranslateWork(t *testing.T) {
	two := []string{
		"SELECT 1 FROM t0, t1", "SELECT DISTINCT t1.1 FROM t0, t1 WHERE t0.1 = 1",
		"SELECT 1 FROM t0 WHERE EXISTS (SELECT 1 FROM t1)", "SELECT 1 FROM t0 WHERE NOT EXISTS (SELECT 1 FROM t1)",
		"SELECT 1 FROM t0 WHERE t0.1 IN (SELECT t1.1 FROM t1)", "SELECT 1 FROM t0 WHERE 1 = 2 AND t0.1 NOT IN (SELECT t1.1 FROM t1)",
		"SELECT 1 FROM t0 WHERE t0.1 <> ANY (SELECT t1.1 FROM t1)", "SELECT 1 FROM t0 WHERE t0.1 <> ALL (SELECT t1.1 FROM t1 WHERE 1 = 2)",
		"SELECT (SELECT COUNT(*) FROM t1) FROM t0", "SELECT (SELECT MAX(t1.1) FROM t1) FROM t0 WHERE 1 = 2",
	}
	for _, text := range two {
		codeOf(t, text, sizeDb(40, 50), 0)
		codeOf(t, text, sizeDb(3, 667), 18)
		codeOf(t, text, sizeDb(667, 3), 18)
	}
	three := []string{
		"SELECT 1 FROM t0, t1, t2", "SELECT (SELECT COUNT(*) FROM t1, t2) FROM t0", "SELECT (SELECT COUNT(*) FROM t2) FROM t0, t1",
		"SELECT (SELECT COUNT((SELECT MIN(t2.1) FROM t2)) FROM t1) FROM t0",
		"SELECT 1 FROM t0 WHERE EXISTS (SELECT 1 FROM t1 WHERE t1.1 IN (SELECT t2.1 FROM t2))",
		"SELECT 1 FROM t0, t1 WHERE EXISTS (SELECT 1 FROM t2)", "SELECT 1 FROM t0 WHERE 1 > ALL (SELECT 1 FROM t1, t2)",
	}
	for _, text := range three {
		codeOf(t, text, sizeDb(10, 10, 20), 0)
		codeOf(t, text, sizeDb(3, 23, 29), 18)
		codeOf(t, text, sizeDb(29, 23, 3), 18)
	}
	sums := "SELECT 1 FROM t0 UNION ALL SELECT 2 FROM t0 UNION ALL SELECT 3 FROM t0 UNION ALL SELECT 4 FROM t1"
	codeOf(t, sums, sizeDb(600, 200), 0)
	codeOf(t, sums, sizeDb(600, 201), 18)
	inner := "SELECT 1 FROM t2 WHERE EXISTS (SELECT 1 FROM t0 UNION ALL SELECT 1 FROM t1)"
	codeOf(t, inner, sizeDb(480, 20, 4), 0)
	codeOf(t, inner, sizeDb(600, 67, 3), 18)
}

// Promise 13, code 18: what is multiplied by no rows is none, but a node in front of that counts.
func TestTranslateWorkOverNothing(t *testing.T) {
	db := sizeDb(0, 100)
	codeOf(t, "SELECT 1 FROM t0, t1 a, t1 b, t1 c", db, 0)
	codeOf(t, "SELECT 1 FROM t1 a, t0, t1 b, t1 c", db, 0)
	codeOf(t, "SELECT 1 FROM t1 a, t1 b, t0", db, 18)
	codeOf(t, "SELECT 1 FROM t0 WHERE EXISTS (SELECT 1 FROM t1 a, t1 b, t1 c)", db, 0)
	codeOf(t, "SELECT 1 FROM t1 WHERE EXISTS (SELECT 1 FROM t0 WHERE EXISTS (SELECT 1 FROM t1 a, t1 b))", db, 0)
	codeOf(t, "SELECT 1 FROM t1 WHERE EXISTS (SELECT 1 FROM t1 a WHERE EXISTS (SELECT 1 FROM t0))", db, 18)
}

// columnsFrom names sources of wideDb with that many columns in all.
func columnsFrom(columns int, prefix string) string {
	var out []string
	for i, cols := range []int{16, 8, 1} {
		for ; columns >= cols; columns -= cols {
			out = append(out, string(rune('a'+i))+" "+prefix+strconv.Itoa(len(out)))
		}
	}
	return strings.Join(out, ",")
}

// Promise 13, code 17: a width with its environment of exactly MaxWidth and of one more.
func TestTranslateMaxWidth(t *testing.T) {
	db := wideDb()
	outer := func(columns int, rest string) string { return "SELECT 1 FROM " + columnsFrom(columns, "o") + rest }
	inner := func(columns int) string { return "SELECT 1 FROM " + columnsFrom(columns, "i") }
	within := func(what string, text func(size int) string, most int) {
		t.Helper()
		for more, want := range []int{0, 0, 17} {
			codeOf(t, text(most-1+more), db, want)
		}
		if t.Failed() {
			t.Log(what)
		}
	}
	within("sources", func(size int) string { return outer(size, "") }, 200)
	within("sources and a cond", func(size int) string { return outer(size, " WHERE 1 = 1") }, 200)
	within("scalars", func(size int) string { return "SELECT " + numbersFrom(size) + " FROM c" }, 200)
	within("scalars of DISTINCT", func(size int) string { return "SELECT DISTINCT " + numbersFrom(size) + " FROM c" }, 200)
	within("a mark", func(size int) string { return outer(size, " WHERE EXISTS ("+inner(1)+")") }, 199)
	within("an aggregate", func(size int) string { return outer(size, " WHERE (SELECT COUNT(*) FROM c) = 1") }, 199)
	for _, left := range []int{1, 7, 100, 192, 198} {
		mark := func(size int) string { return outer(left, " WHERE EXISTS ("+inner(size)+")") }
		within("sources of a query", mark, 200-left)
		agg := func(size int) string {
			return outer(left, " WHERE (SELECT MIN(1) FROM "+columnsFrom(size, "i")+") IS NULL")
		}
		within("sources of an aggregate", agg, 200-left)
		scalars := func(size int) string { return outer(left, " WHERE EXISTS (SELECT "+numbersFrom(size)+" FROM c)") }
		within("scalars of a query", scalars, 200-left)
	}
	third := func(size int) string {
		return outer(100, " WHERE 1 IN ("+inner(60)+" WHERE EXISTS (SELECT 1 FROM "+columnsFrom(size, "x")+"))")
	}
	within("three blocks", third, 40)
	added := func(size int) string {
		return outer(100, " WHERE EXISTS ("+inner(1)+") AND 1 < ANY ("+inner(1)+") AND EXISTS ("+inner(size)+")")
	}
	within("columns that were added", added, 98)
	scalar := func(size int) string { return outer(100, " WHERE (SELECT COUNT(*) FROM c) IN ("+inner(size)+")") }
	within("a scalar in front", scalar, 99)
	union := func(size int) string { return outer(150, " WHERE EXISTS ("+inner(1)+" UNION ALL "+inner(size)+")") }
	within("a union", union, 50)
	argument := func(size int) string {
		return "SELECT (SELECT MIN((SELECT MAX(1) FROM " + columnsFrom(size, "i") + ")) FROM " + columnsFrom(50, "x") + ") FROM " + columnsFrom(50, "o")
	}
	within("an argument", argument, 100)
	many := func(size int) string {
		return "SELECT 1 FROM c WHERE " + chain(size, "EXISTS (SELECT 1 FROM c)", " OR ")
	}
	within("marks", many, 199)
	aggs := func(size int) string { return "SELECT " + chain(size, "(SELECT COUNT(*) FROM c)", ",") + " FROM c" }
	within("aggregates", aggs, 199)
}

// Promise 13, code 17: MaxPlan nodes and one more, an expression of MaxEx Ops and one more.
func TestTranslateMaxPlan(t *testing.T) {
	db := wideDb()
	// A select of a source is 2 nodes, and each but the first makes a union of one more.
	selects := chain(667, "SELECT 1 FROM c", " UNION ALL ")
	codeOf(t, selects, db, 0)
	codeOf(t, strings.Replace(selects, "SELECT", "SELECT DISTINCT", 1), db, 17)
	codeOf(t, selects+" WHERE 1 = 1", db, 17)
	codeOf(t, strings.Replace(selects, "FROM c", "FROM c, a", 1), db, 17)
	codeOf(t, selects+" UNION ALL SELECT 1 FROM c", db, 17)
	for more, want := range []int{0, 0, 17} {
		codeOf(t, "SELECT 1 FROM c WHERE "+chain(1997+more, "1=1", "AND "), db, want)
		codeOf(t, "SELECT 1 FROM c WHERE EXISTS (SELECT 1 FROM c WHERE "+chain(1993+more, "1=1", "AND ")+")", db, want)
	}
	// A comparison is 3 Ops, and each but the first makes one more.
	long := chain(1250, "1=1", "OR ")
	codeOf(t, "SELECT 1 FROM c WHERE "+long, db, 0)
	codeOf(t, "SELECT 1 FROM c WHERE NOT "+long, db, 0)
	codeOf(t, "SELECT 1 FROM c WHERE NOT NOT "+long, db, 17)
	codeOf(t, "SELECT 1 FROM c WHERE "+long+" OR NULL IS NULL", db, 17)
	codeOf(t, "SELECT 1 FROM c WHERE 2=2 AND (NOT "+long+") AND 3=3", db, 0)
	codeOf(t, "SELECT 1 FROM c WHERE 2=2 AND (NOT NOT "+long+") AND 3=3", db, 17)
	all := chain(1250, "1=1", "AND ")
	codeOf(t, "SELECT 1 FROM c WHERE NOT("+all+")", db, 0)
	codeOf(t, "SELECT 1 FROM c WHERE NOT NOT("+all+")", db, 17)
	codeOf(t, "SELECT (SELECT MIN(1) FROM c WHERE NOT "+long+") FROM c", db, 0)
	codeOf(t, "SELECT (SELECT MIN(1) FROM c WHERE NOT NOT "+long+") FROM c", db, 17)
}

// Promise 13: trees that no text of MaxText bytes has, and the deepest ones.
func TestTranslateLargest(t *testing.T) {
	db := wideDb()
	c := from(sSrc("c", "c"))
	one := sSelect(0, []shape{sInt(1)}, c)
	var selects []shape
	for range 3333 {
		selects = append(selects, one)
	}
	wantAstCode(t, "the most nodes", sOf(impl.KUnion, selects...).ast(), db, 17)
	selects[3332] = sSelect(0, []shape{sInt(1)}, from(sSrc("r", "r")))
	wantAstCode(t, "the last table", sOf(impl.KUnion, selects...).ast(), db, 11)
	var sources, columns []shape
	for i := range 4900 {
		name := "name" + strconv.Itoa(i)
		sources = append(sources, sSrc("c", name))
		columns = append(columns, sCol(name, 1))
	}
	wantAstCode(t, "sources and columns", sSelect(0, columns, sources).ast(), db, 17)
	columns[4899].n.S = "name"
	wantAstCode(t, "the last column", sSelect(0, columns, sources).ast(), db, 13)
	for levels, want := range map[int]int{99: 0, 100: 10} {
		query := one
		for range levels {
			query = sSelect(0, []shape{sCol("c", 1)}, append(c[:1:1], sOf(impl.KExists, query)))
		}
		wantAstCode(t, "subqueries", query.ast(), db, want)
	}
	_, tower := aggTower(impl.MaxDepth - 2)
	wantAstCode(t, "aggregates", tower.ast(), sizeDb(1), 11)
	single := impl.Db{Tables: []impl.Table{bigTable("r", 1)}}
	wantAstCode(t, "aggregates", tower.ast(), single, 0)
	wantAstCode(t, "aggregates", tower.ast(), smallDb(), 17)
}
