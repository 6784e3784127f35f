package tests

import (
	"math/rand"
	"strings"
	"sync"
	"testing"

	"loop.example/s0035/impl"
)

func gives(t *testing.T, text string, data string, want string) {
	t.Helper()
	if got, code := impl.Run(text, data); code != 0 || got != want {
		t.Errorf("%.200q: %.200q with code %d, not %.200q", text, got, code, want)
	}
}

func givesCode(t *testing.T, text string, data string, want int) {
	t.Helper()
	if got, code := impl.Run(text, data); code != want || got != "" {
		t.Errorf("%.200q over %.80q: %.200q with code %d, not %d", text, data, got, code, want)
	}
}

// runData has NULLs, numbers below 0, a row twice and a table without rows.
const runData = "table r 2\nrow 1 1\nrow 1 NULL\nrow 2 3\nrow 1 1\ntable s 1\nrow 1\nrow NULL\nrow 3\ntable none 1\n" +
	"table big 3\nrow 999999999999999999 -999999999999999999 0\nrow -1 NULL -10\nrow 10 9 NULL\nrow -1 NULL -10\n"

// Promise 15, the text byte by byte.
func TestRunText(t *testing.T) {
	for text, want := range map[string]string{
		"SELECT 1 FROM none":                            "",
		"SELECT 1 FROM r WHERE NULL = NULL":             "",
		"SELECT NULL FROM s":                            "NULL\nNULL\nNULL\n",
		"SELECT s.1 FROM s":                             "NULL\n1\n3\n",
		"SELECT s.1, s.1, 7, NULL FROM s":               "NULL NULL 7 NULL\n1 1 7 NULL\n3 3 7 NULL\n",
		"SELECT r.1, r.2 FROM r":                        "1 NULL\n1 1\n1 1\n2 3\n",
		"SELECT r.2, r.1 FROM r":                        "NULL 1\n1 1\n1 1\n3 2\n",
		"SELECT DISTINCT r.1, r.2 FROM r":               "1 NULL\n1 1\n2 3\n",
		"SELECT big.1, big.2, big.3 FROM big":           "-1 NULL -10\n-1 NULL -10\n10 9 NULL\n999999999999999999 -999999999999999999 0\n",
		"SELECT big.2 FROM big":                         "NULL\nNULL\n-999999999999999999\n9\n",
		"SELECT DISTINCT -1 FROM r":                     "-1\n",
		"SELECT -000000000000000007, 007, -0, 0 FROM s": "-7 7 0 0\n-7 7 0 0\n-7 7 0 0\n",
		"SELECT (SELECT COUNT(*) FROM big), (SELECT MIN(big.3) FROM big), (SELECT MAX(none.1) FROM none) FROM none a UNION ALL SELECT 0, 1, 2 FROM s WHERE s.1 = 3": "0 1 2\n",
		"SELECT (SELECT COUNT(*) FROM big), (SELECT MIN(big.3) FROM big), (SELECT MAX(none.1) FROM none) FROM s WHERE s.1 = 3":                                      "4 -10 NULL\n",
	} {
		gives(t, text, runData, want)
	}
}

// Promise 15, what the document calls out: NULL on either side, no rows at all, names that hide others.
func TestRunAnswers(t *testing.T) {
	for text, want := range map[string]string{
		"SELECT r.1 FROM r WHERE r.2 IN (SELECT s.1 FROM s WHERE s.1 <> r.1)":                   "2\n",
		"SELECT r.2 FROM r WHERE r.2 IN (SELECT s.1 FROM s)":                                    "1\n1\n3\n",
		"SELECT r.1 FROM r WHERE r.1 NOT IN (SELECT s.1 FROM s)":                                "",
		"SELECT r.1 FROM r WHERE r.1 NOT IN (SELECT s.1 FROM s WHERE s.1 IS NOT NULL)":          "2\n",
		"SELECT r.1 FROM r WHERE r.2 NOT IN (SELECT s.1 FROM s WHERE s.1 = 3)":                  "1\n1\n",
		"SELECT r.1 FROM r WHERE r.2 NOT IN (SELECT none.1 FROM none)":                          "1\n1\n1\n2\n",
		"SELECT r.1 FROM r WHERE NULL NOT IN (SELECT none.1 FROM none)":                         "1\n1\n1\n2\n",
		"SELECT r.1 FROM r WHERE NULL NOT IN (SELECT s.1 FROM s)":                               "",
		"SELECT r.1 FROM r WHERE NOT (r.2 IN (SELECT NULL FROM s))":                             "",
		"SELECT r.1 FROM r WHERE r.2 = ANY (SELECT none.1 FROM none)":                           "",
		"SELECT r.1 FROM r WHERE NOT r.2 = ANY (SELECT none.1 FROM none)":                       "1\n1\n1\n2\n",
		"SELECT r.1 FROM r WHERE r.2 > ALL (SELECT none.1 FROM none)":                           "1\n1\n1\n2\n",
		"SELECT r.1 FROM r WHERE r.2 > ALL (SELECT NULL FROM s)":                                "",
		"SELECT r.1 FROM r WHERE NOT r.2 > ALL (SELECT NULL FROM s)":                            "",
		"SELECT r.1 FROM r WHERE r.2 > ANY (SELECT NULL FROM s)":                                "",
		"SELECT r.1 FROM r WHERE r.2 >= ALL (SELECT s.1 FROM s)":                                "",
		"SELECT r.1 FROM r WHERE NOT r.2 >= ALL (SELECT s.1 FROM s)":                            "1\n1\n",
		"SELECT r.1 FROM r WHERE r.2 >= ALL (SELECT s.1 FROM s WHERE s.1 IS NOT NULL)":          "2\n",
		"SELECT r.1 FROM r WHERE r.2 < ANY (SELECT s.1 FROM s)":                                 "1\n1\n",
		"SELECT r.1 FROM r WHERE r.2 <> ALL (SELECT s.1 FROM s WHERE s.1 > 1)":                  "1\n1\n",
		"SELECT DISTINCT (SELECT COUNT(*) FROM none), (SELECT COUNT(none.1) FROM none) FROM r":  "0 0\n",
		"SELECT DISTINCT (SELECT MIN(none.1) FROM none), (SELECT MAX(none.1) FROM none) FROM r": "NULL NULL\n",
		"SELECT DISTINCT (SELECT COUNT(*) FROM s), (SELECT COUNT(s.1) FROM s) FROM r":           "3 2\n",
		"SELECT DISTINCT (SELECT COUNT(NULL) FROM s), (SELECT MAX(NULL) FROM s) FROM r":         "0 NULL\n",
		"SELECT r.2, (SELECT COUNT(*) FROM s WHERE s.1 > r.2) FROM r":                           "NULL 0\n1 1\n1 1\n3 0\n",
		"SELECT r.1 FROM r WHERE EXISTS (SELECT r.1 FROM s r WHERE r.1 = 3) AND r.2 = 3":        "2\n",
		"SELECT a.1, b.1 FROM s a, s b WHERE a.1 < b.1 OR a.1 IS NULL AND b.1 IS NULL":          "NULL NULL\n1 3\n",
		"SELECT s.1 FROM s UNION ALL SELECT r.1 FROM r UNION ALL SELECT none.1 FROM none":       "NULL\n1\n1\n1\n1\n2\n3\n",
		"SELECT s.1 FROM s WHERE 2 < ANY (SELECT r.2 FROM r WHERE r.1 = 1 OR s.1 IS NULL)":      "NULL\n",
	} {
		gives(t, text, runData, want)
	}
}

// Promise 15, the codes: those of the tables first, whatever the query is.
func TestRunCodes(t *testing.T) {
	good := "SELECT r.1 FROM r"
	queries := []string{
		good, "", ";", "SELECT 1", "SELECT 1 FROM nowhere", strings.Repeat(" ", impl.MaxText+1), strings.Repeat("(", impl.MaxOpen+1),
		"SELECT r.3 FROM r, r", good + " WHERE " + strings.Repeat("NOT ", impl.MaxDepth) + "1 = 1",
	}
	for want, list := range map[int][]string{
		101: {strings.Repeat("\n", impl.MaxText+1), runData + strings.Repeat(" ", impl.MaxText), strings.Repeat("x", impl.MaxText+1)},
		102: {"row 1", "table", "table r", "table r x", "table r 2\nrow 1 x", "table r 2\nrow 1 +2", "x", "table r 0\nrow x", "Table r 1", runData + "row\t1"},
		103: {
			"table r 0", "table r 17", "table r 2\nrow 1", "table r 1\ntable r 1", "table SELECT 1", "table 1 1", "table r_é 1",
			"table r 1\n" + strings.Repeat("row 1\n", impl.MaxRows+1), "table r 2\nrow",
		},
	} {
		for _, data := range list {
			for _, text := range queries {
				givesCode(t, text, data, want)
			}
		}
	}
	for text, want := range map[string]int{
		strings.Repeat(" ", impl.MaxText+1): 1, "'": 2, strings.Repeat("(", impl.MaxOpen+1): 3, "": 4, good + " FROM r": 4,
		good + " WHERE " + strings.Repeat("NOT ", impl.MaxDepth) + "1 = 1": 5,
	} {
		givesCode(t, text, runData, want)
		givesCode(t, text, "", want)
	}
	for want, cond := range faultConds() {
		givesCode(t, good+" WHERE "+cond, runData, want)
		givesCode(t, good+" WHERE "+cond, "", 11)
	}
	givesCode(t, good, "", 11)
	givesCode(t, good, " \n\n", 11)
	givesCode(t, "SELECT 1 FROM t0, t1", dataOf(sizeDb(3, 667)), 18)
	gives(t, "SELECT DISTINCT 1 FROM t0, t1", dataOf(sizeDb(40, 50)), "1\n")
}

// Promise 15: texts of exactly MaxText bytes.
func TestRunLongTexts(t *testing.T) {
	query := "SELECT s.1 FROM s"
	fill := func(text string, with string) string { return text + strings.Repeat(with, impl.MaxText-len(text)) }
	gives(t, fill(query, " "), fill(runData, "\n"), "NULL\n1\n3\n")
	gives(t, fill(query, "\t"), fill(runData, " "), "NULL\n1\n3\n")
	givesCode(t, fill(query, " ")+" ", fill(runData, "\n"), 1)
	givesCode(t, fill(query, " "), fill(runData, "\n")+"\n", 101)
	givesCode(t, fill(query, " ")+" ", fill(runData, "\n")+"\n", 101)
	all := "table t0 1\n" + strings.Repeat("row -1\n", impl.MaxRows)
	gives(t, "SELECT t0.1 FROM t0 UNION ALL SELECT 2 FROM t0", all, strings.Repeat("-1\n", 1000)+strings.Repeat("2\n", 1000))
}

// Promise 15: texts with the same tokens give the same answer, and so do those that are read as the same tree.
func TestRunBlanks(t *testing.T) {
	r := rand.New(rand.NewSource(16))
	data := dataOf(smallDb())
	for _, text := range kindsOfQueries() {
		want := textWant(meaning(shapeOf(t, text), smallDb(), nil))
		tokens := speller{}.query(shapeOf(t, text))
		for range 4 {
			gives(t, joined(r, tokens), data, want)
			gives(t, joined(r, speller{r: r}.query(shapeOf(t, text))), data, want)
		}
		gives(t, strings.Join(tokens, " \n\t "), data, want)
	}
	wrong := strings.Fields("SELECT 1 FROM r WHERE r . 3 = 1 AND nobody . 1 = 1")
	for range 20 {
		givesCode(t, joined(r, wrong), data, 13)
		givesCode(t, joined(r, wrong[:len(wrong)-1]), data, 4)
	}
}

// Promise 15: queries and tables by chance, against what the query means.
func TestRunByChance(t *testing.T) {
	r := rand.New(rand.NewSource(17))
	lines := 0
	for round := 0; round < 5000; round++ {
		g := asker{r: r, db: chanceDb(r), wild: []int{0, 0, 0, 50}[round%4]}
		s := g.query(r.Intn(5), int64(1+r.Intn(3)), nil)
		text := joined(r, speller{r: r}.query(s))
		if len(text) > impl.MaxText {
			continue
		}
		if code := compileWant(text, g.db); code != 0 {
			givesCode(t, text, dataOf(g.db), code)
			continue
		}
		want := textWant(meaning(s, g.db, nil))
		lines += strings.Count(want, "\n")
		gives(t, text, dataOf(g.db), want)
		if t.Failed() {
			return
		}
	}
	if lines < 5000 {
		t.Errorf("%d lines: too few to tell", lines)
	}
}

// Promise 15: the answer hangs on the two texts alone, also when several ask at once.
func TestRunTwice(t *testing.T) {
	data := dataOf(smallDb())
	queries := kindsOfQueries()
	want := make([]string, len(queries))
	for i, text := range queries {
		want[i], _ = impl.Run(text, data)
	}
	var asking sync.WaitGroup
	for range 4 {
		asking.Add(1)
		go func() {
			defer asking.Done()
			for i, text := range queries {
				if got, code := impl.Run(text, data); code != 0 || got != want[i] {
					t.Errorf("%s: %q with code %d, not %q", text, got, code, want[i])
				}
			}
		}()
	}
	asking.Wait()
}
