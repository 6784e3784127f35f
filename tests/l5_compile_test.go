package tests

import (
	"math/rand"
	"strings"
	"testing"

	"loop.example/s0035/impl"
)

// compileWant is the code that Compile has to give.
func compileWant(text string, db impl.Db) int {
	a, code := impl.Parse(text)
	if code != 0 {
		return code
	}
	_, code = translateWant(a, db)
	return code
}

// wantCompile asks Compile for the code, for the exact flat plan and for the bag that the query means, and that its
// arguments stay. It gives the code.
func wantCompile(t *testing.T, text string, db impl.Db) int {
	t.Helper()
	keepDb := cloneDb(db)
	f, code := impl.Compile(text, db)
	if want := compileWant(text, db); code != want {
		t.Errorf("%.300q: code %d, not %d", text, code, want)
		return code
	}
	if !sameDb(db, keepDb) {
		t.Errorf("%.300q: the Db has changed", text)
	}
	if code != 0 {
		if !noFlat(f) {
			t.Errorf("%.300q: code %d and a flat plan %v", text, code, f)
		}
		return code
	}
	a, _ := impl.Parse(text)
	o, _ := translateWant(a, db)
	if want := simplifyWant(unnestWant(o, db), db); !sameFlat(f, want) {
		t.Errorf("%.300q: %v\nwant %v", text, f, want)
	}
	wantMeaning(t, text, f, db)
	return code
}

// wantMeaning asks of a flat plan that it is as the document promises it for a text.
func wantMeaning(t *testing.T, text string, f impl.Flat, db impl.Db) {
	t.Helper()
	s := shapeOf(t, text)
	if width, ok := impl.FlatOk(f, db); !ok || int64(width) != columnsOf(s) {
		t.Errorf("%.300q: FlatOk %d %v", text, width, ok)
	}
	if again, ok := impl.Simplify(f, db); !ok || !sameFlat(again, f) {
		t.Errorf("%.300q: Simplify of %v gives %v", text, f, again)
	}
	rows, ok := impl.EvalFlat(f, db)
	if !ok {
		t.Errorf("%.300q: the flat plan does not run", text)
		return
	}
	wantBag(t, text, rows, meaning(s, db, nil))
}

// Promise 14, the exact nodes of the document's example and of its opposite.
func TestCompileExample(t *testing.T) {
	db := smallDb()
	nodes := []impl.FNode{
		fUnit(), fScan(0), fJoin(0, 0, 1),
		fDistinct(2), fScan(1), fJoin(0, 3, 4),
		fSelect(is(col(2), impl.NeOp, col(0)), 5),
		fMap(6, col(0), col(1), col(2)),
		fHeld(impl.FSemi, 2, is(col(1), impl.EqOp, col(2)), 2, 7),
		fMap(8, col(0), col(1), lit(1)),
		fMap(9, col(0)),
	}
	f, code := impl.Compile("SELECT r.1 FROM r WHERE r.2 IN (SELECT s.1 FROM s WHERE s.1 <> r.1)", db)
	if code != 0 || !sameFlat(f, flat(nodes...)) {
		t.Errorf("code %d, %v", code, f)
	}
	nodes[8].K, nodes[9].Exs[2] = impl.FAnti, lit(0)
	f, code = impl.Compile("SELECT r.1 FROM r WHERE r.2 NOT IN (SELECT s.1 FROM s WHERE s.1 <> r.1)", db)
	if code != 0 || !sameFlat(f, flat(nodes...)) {
		t.Errorf("code %d, %v", code, f)
	}
	// A mark that is asked for together with something else stays one.
	f, code = impl.Compile("SELECT r.1 FROM r WHERE 1 = 1 OR EXISTS (SELECT 1 FROM s)", db)
	want := flat(fUnit(), fScan(0), fJoin(0, 0, 1), fDistinct(2), fScan(1), fJoin(0, 3, 4), fMap(5, col(0), col(1), lit(1)),
		fMark(2, lit(1), 2, 6), fSelect(append(is(lit(1), 1, lit(1)), op(impl.XCol, 2), op(impl.XOr, 0)), 7), fMap(8, col(0)))
	if code != 0 || !sameFlat(f, want) {
		t.Errorf("code %d, %v", code, f)
	}
}

// kindsOfQueries has each kind of node of a query, over smallDb.
func kindsOfQueries() []string {
	queries := []string{
		"SELECT r.1, NULL, r.2, -7 FROM r", "SELECT DISTINCT r.1 FROM r", "SELECT DISTINCT NULL FROM r, s",
		"SELECT 1 FROM none", "SELECT DISTINCT none.1 FROM none, r", "SELECT s.1, r.2 FROM s, r", "SELECT a.1, b.1 FROM s a, s b WHERE a.1 = b.1",
		"SELECT s.1 FROM s UNION ALL SELECT r.2 FROM r UNION ALL SELECT s.1 FROM s", "SELECT DISTINCT s.1 FROM s UNION ALL SELECT DISTINCT s.1 FROM s",
		"SELECT r.1 FROM r WHERE r.2 IS NULL", "SELECT r.1 FROM r WHERE r.2 IS NOT NULL", "SELECT r.1 FROM r WHERE NOT r.2 = 1",
		"SELECT r.1 FROM r WHERE r.1 = 2 AND r.2 = 3", "SELECT r.1 FROM r WHERE r.1 = 2 OR r.2 = 1", "SELECT r.1 FROM r WHERE NOT (r.1 = 2 OR r.2 = 1)",
		"SELECT r.1 FROM r WHERE NOT (r.1 = 1 AND r.2 = 1)", "SELECT r.1 FROM r WHERE EXISTS (SELECT 1 FROM none)",
		"SELECT r.1 FROM r WHERE NOT EXISTS (SELECT 1 FROM none WHERE none.1 = r.1)", "SELECT r.1 FROM r WHERE EXISTS (SELECT 1 FROM s WHERE s.1 = r.2)",
		"SELECT r.1 FROM r WHERE NOT EXISTS (SELECT 1 FROM s WHERE s.1 = r.2)", "SELECT r.1, r.2 FROM r WHERE r.2 IN (SELECT s.1 FROM s)",
		"SELECT r.1, r.2 FROM r WHERE r.2 NOT IN (SELECT s.1 FROM s WHERE s.1 IS NOT NULL)", "SELECT r.1 FROM r WHERE r.2 NOT IN (SELECT s.1 FROM s)",
		"SELECT r.1, (SELECT COUNT(*) FROM s WHERE s.1 = r.2) FROM r", "SELECT r.1, (SELECT COUNT(s.1) FROM s), (SELECT COUNT(*) FROM s) FROM r",
		"SELECT (SELECT MIN(s.1) FROM s WHERE s.1 > r.1), (SELECT MAX(s.1) FROM s WHERE s.1 > r.2) FROM r",
		"SELECT (SELECT MAX((SELECT COUNT(*) FROM s WHERE s.1 = a.2)) FROM r a WHERE a.1 = r.1) FROM r",
		"SELECT 1 FROM r WHERE (SELECT COUNT(*) FROM s) IN (SELECT (SELECT COUNT(s.1) FROM s) FROM s x UNION ALL SELECT 5 FROM none)",
		"SELECT r.1 FROM r WHERE EXISTS (SELECT 1 FROM s WHERE s.1 IN (SELECT x.2 FROM r x WHERE x.1 = r.1 AND x.2 >= s.1))",
		"SELECT r.1 FROM r WHERE 1 = 2 OR EXISTS (SELECT 1 FROM s WHERE s.1 = r.1) OR r.2 IN (SELECT s.1 FROM s)",
		"SELECT r.1 FROM r WHERE EXISTS (SELECT DISTINCT r.1 FROM s r WHERE r.1 = 3)", "SELECT x.2 FROM r x WHERE x.1 IN (SELECT DISTINCT x.1 FROM s x)",
	}
	for c := 1; c <= 6; c++ {
		for _, quantor := range []string{"ANY", "ALL"} {
			queries = append(queries,
				"SELECT r.1, r.2 FROM r WHERE r.2 "+opText(c)+" "+quantor+" (SELECT s.1 FROM s)",
				"SELECT r.1, r.2 FROM r WHERE NOT r.2 "+opText(c)+" "+quantor+" (SELECT s.1 FROM s WHERE s.1 IS NOT NULL)",
				"SELECT r.1, r.2 FROM r WHERE (SELECT COUNT(*) FROM none) "+opText(c)+" "+quantor+" (SELECT s.1 FROM s WHERE s.1 > r.2)")
		}
		queries = append(queries, "SELECT r.1, r.2 FROM r WHERE r.1 "+opText(c)+" r.2")
	}
	return queries
}

// Promise 14, each kind of node of a query.
func TestCompileKinds(t *testing.T) {
	for _, text := range kindsOfQueries() {
		if code := wantCompile(t, text, smallDb()); code != 0 {
			t.Errorf("%s: code %d", text, code)
		}
	}
}

// smallBags are all bags of at most three values out of NULL, 0 and 1, as tables of one column.
func smallBags(name string) []impl.Table {
	vals := []impl.Val{oddNull(3), num(0), num(1)}
	var out []impl.Table
	for a := 0; a <= 3; a++ {
		for b := a; b <= 3; b++ {
			for c := b; c <= 3; c++ {
				table := tableOf(name, 1)
				for _, place := range []int{a, b, c} {
					if place < 3 {
						table.Rows = append(table.Rows, row(vals[place]))
					}
				}
				out = append(out, table)
			}
		}
	}
	return out
}

// heldQueries hold a scalar against the values of s in all ways, with the cond of the subquery and without.
func heldQueries() []string {
	var out []string
	for _, scalar := range []string{"r.1", "NULL", "0", "(SELECT MAX(s.1) FROM s)"} {
		for _, where := range []string{"", " WHERE s.1 = r.1", " WHERE s.1 IS NOT NULL", " WHERE s.1 IS NULL", " WHERE 1 = 2"} {
			query := " (SELECT s.1 FROM s" + where + ")"
			out = append(out, scalar+" IN"+query, scalar+" NOT IN"+query)
			for c := 1; c <= 6; c++ {
				out = append(out, scalar+" "+opText(c)+" ANY"+query, scalar+" "+opText(c)+" ALL"+query)
			}
		}
	}
	return out
}

// Promise 14: IN, NOT IN, ANY and ALL over all small bags, as conds, under NOT, and counted by their truth.
func TestCompileHeldAgainst(t *testing.T) {
	rows := tableOf("r", 1, nums(0), row(null()), nums(1), nums(0), nums(-1))
	for _, bagOf := range smallBags("s") {
		db := impl.Db{Tables: []impl.Table{rows, bagOf}}
		for i, held := range heldQueries() {
			for k, cond := range []string{held, "NOT " + held, "(" + held + ") OR NULL = 1", "r.1 = 0 OR NOT " + held} {
				// One way of asking for each is enough with each bag; all of them come up over the bags.
				if (i+k+len(bagOf.Rows))%2 == 0 {
					continue
				}
				text := "SELECT r.1 FROM r WHERE " + cond
				f, code := impl.Compile(text, db)
				if code != 0 {
					t.Fatalf("%s: code %d", text, code)
				}
				wantMeaning(t, text, f, db)
			}
		}
	}
}

// Promise 14: aggregates, EXISTS, DISTINCT, UNION ALL and products over all pairs of small bags.
func TestCompilePairsOfBags(t *testing.T) {
	queries := []string{
		"SELECT r.1, (SELECT COUNT(*) FROM s WHERE s.1 <= r.1), (SELECT COUNT(s.1) FROM s WHERE s.1 <= r.1) FROM r",
		"SELECT (SELECT MIN(s.1) FROM s WHERE r.1 IS NULL OR s.1 > r.1), (SELECT MAX(s.1) FROM s WHERE NOT s.1 > r.1) FROM r",
		"SELECT (SELECT COUNT(r.1) FROM s), (SELECT MIN(r.1) FROM s) FROM r",
		"SELECT DISTINCT r.1, s.1 FROM r, s",
		"SELECT r.1 FROM r, s",
		"SELECT r.1 FROM r, s WHERE r.1 = s.1 UNION ALL SELECT DISTINCT s.1 FROM s UNION ALL SELECT r.1 FROM r",
		"SELECT r.1 FROM r WHERE EXISTS (SELECT 1 FROM s WHERE s.1 = r.1)",
		"SELECT r.1 FROM r WHERE NOT EXISTS (SELECT 1 FROM s WHERE s.1 = r.1)",
		"SELECT r.1 FROM r WHERE (SELECT COUNT(*) FROM s) > (SELECT COUNT(s.1) FROM s WHERE s.1 = r.1)",
		"SELECT r.1 FROM r WHERE EXISTS (SELECT r.1 FROM s r WHERE r.1 = 1) AND r.1 IN (SELECT s.1 FROM s UNION ALL SELECT 0 FROM s)",
		"SELECT (SELECT MAX((SELECT COUNT(*) FROM r x WHERE x.1 = s.1 OR x.1 = r.1)) FROM s) FROM r",
	}
	for _, left := range smallBags("r") {
		for _, right := range smallBags("s") {
			db := impl.Db{Tables: []impl.Table{left, right}}
			for _, text := range queries {
				f, code := impl.Compile(text, db)
				if code != 0 {
					t.Fatalf("%s: code %d", text, code)
				}
				wantMeaning(t, text, f, db)
			}
		}
	}
}

// Promise 14: queries by chance, with and without faults.
func TestCompileByChance(t *testing.T) {
	r := rand.New(rand.NewSource(15))
	good, full := 0, 0
	for round := 0; round < 6000; round++ {
		g := asker{r: r, db: chanceDb(r), wild: []int{0, 0, 60}[round%3]}
		text := impl.Print(g.ast(r.Intn(5)))
		if code := wantCompile(t, text, g.db); code == 0 {
			good++
			if f, _ := impl.Compile(text, g.db); len(f.Nodes) > 20 {
				full++
			}
		}
		if t.Failed() {
			return
		}
	}
	if good < 3000 || full < 1000 {
		t.Errorf("%d compile, %d of them to many nodes: too few to tell", good, full)
	}
}

// Promise 14: the codes of Parse, whatever the Db is, and then those of Translate.
func TestCompileCodes(t *testing.T) {
	bad := smallDb()
	bad.Tables[0].Cols = 0
	query := "SELECT 1 FROM r"
	depth := "SELECT 1 FROM r WHERE " + strings.Repeat("NOT ", impl.MaxDepth) + "1 = 1"
	cases := []struct {
		text string
		code int
	}{
		{query + strings.Repeat(" ", impl.MaxText-len(query)+1), 1},
		{strings.Repeat(";", impl.MaxText+1), 1},
		{query + ";", 2},
		{query + " WHERE 1234567890123456789 = " + strings.Repeat("(", impl.MaxOpen+1), 2},
		{strings.Repeat("(", impl.MaxOpen+1), 3},
		{"", 4},
		{"SELECT 1", 4},
		{"SELECT 1 FROM nowhere WHERE", 4},
		{depth, 5},
		{strings.Replace(depth, "FROM r", "FROM nowhere", 1), 5},
	}
	for _, c := range cases {
		for _, db := range []impl.Db{smallDb(), bad, {}} {
			if f, code := impl.Compile(c.text, db); code != c.code || !noFlat(f) {
				t.Errorf("%.80q: code %d with %v, not %d", c.text, code, f, c.code)
			}
		}
	}
	for what, spoil := range wrongDbs() {
		db := smallDb()
		spoil(&db)
		if f, code := impl.Compile(query, db); code != 10 || !noFlat(f) {
			t.Errorf("%s: code %d with %v", what, code, f)
		}
	}
	for want, cond := range faultConds() {
		text := query + " WHERE " + cond
		if f, code := impl.Compile(text, smallDb()); code != want || !noFlat(f) {
			t.Errorf("%.80q: code %d with %v, not %d", text, code, f, want)
		}
		if f, code := impl.Compile(text, bad); code != 10 || !noFlat(f) {
			t.Errorf("%.80q over a wrong Db: code %d with %v", text, code, f)
		}
	}
	if _, code := impl.Compile(query+strings.Repeat("\n", impl.MaxText-len(query)), smallDb()); code != 0 {
		t.Errorf("a text of MaxText bytes: code %d", code)
	}
}

// Promise 14: flat plans of queries at the limits run, and mean what the queries mean.
func TestCompileLargest(t *testing.T) {
	nested := "SELECT c.1 FROM c"
	for range 99 {
		nested = "SELECT c.1 FROM c WHERE EXISTS (" + nested + ")"
	}
	single := impl.Db{Tables: []impl.Table{bigTable("r", 1)}}
	tower, _ := aggTower(impl.MaxDepth - 2)
	cases := []struct {
		text string
		db   impl.Db
	}{
		{"SELECT t0.1, t1.1 FROM t0, t1", sizeDb(40, 50)},
		{"SELECT DISTINCT t1.1 FROM t0, t1", sizeDb(40, 50)},
		{"SELECT t0.1 FROM t0 WHERE t0.1 NOT IN (SELECT t1.1 FROM t1 WHERE t1.1 > 3)", sizeDb(40, 50)},
		{"SELECT t0.1, (SELECT COUNT(*) FROM t1 WHERE t1.1 <= t0.1) FROM t0", sizeDb(40, 50)},
		{"SELECT t0.1 FROM t0 UNION ALL SELECT t0.1 FROM t0", sizeDb(1000)},
		{"SELECT t1.1 FROM t0, t1 a, t1 b, t1", sizeDb(0, 500)},
		{"SELECT 1 FROM t0 WHERE EXISTS (SELECT 1 FROM t1 a, t1 b)", sizeDb(0, 500)},
		{nested, wideDb()},
		{tower, single},
		{chain(667, "SELECT c.1 FROM c", " UNION ALL "), wideDb()},
		{"SELECT 1 FROM c WHERE " + chain(1998, "1=1", "AND "), wideDb()},
		{"SELECT 1 FROM c WHERE NOT " + chain(1250, "1=2", "OR "), wideDb()},
		{"SELECT 1 FROM c WHERE " + chain(199, "EXISTS (SELECT 1 FROM c)", " AND "), wideDb()},
		{"SELECT 1 FROM c WHERE " + chain(199, "c.1 IN (SELECT 1 FROM c)", " OR "), wideDb()},
		{"SELECT " + chain(199, "(SELECT COUNT(*) FROM c)", ",") + " FROM c", wideDb()},
		{"SELECT " + numbersFrom(200) + " FROM " + columnsFrom(200, "o"), wideDb()},
	}
	for _, c := range cases {
		f, code := impl.Compile(c.text, c.db)
		if code != 0 {
			t.Errorf("%.80s: code %d", c.text, code)
			continue
		}
		wantMeaning(t, c.text, f, c.db)
	}
}

// Promise 14: a flat plan is new memory.
func TestCompileNewMemory(t *testing.T) {
	for _, text := range kindsOfQueries() {
		db := smallDb()
		first, _ := impl.Compile(text, db)
		want := cloneFlat(first)
		second, code := impl.Compile(text, db)
		if code != 0 || !sameFlat(first, second) {
			t.Errorf("%s: a second time gives %v, not %v", text, second, want)
		}
		noSharedExs(t, text, second)
		scribble(second)
		if !sameFlat(first, want) || !sameDb(db, smallDb()) {
			t.Errorf("%s: a flat plan shares memory with another one or with the Db", text)
		}
	}
}
