package tests

import (
	"math"
	"math/rand"
	"strconv"
	"strings"
	"testing"

	"loop.example/s0035/impl"
)

func wantDbOk(t *testing.T, what string, db impl.Db, want bool) {
	t.Helper()
	keep := cloneDb(db)
	if got := impl.DbOk(db); got != want || dbWant(db) != want {
		t.Errorf("%s: DbOk says %v, not %v", what, got, want)
	}
	if !sameDb(db, keep) {
		t.Errorf("%s: DbOk has changed its argument", what)
	}
}

func manyTables(many int) impl.Db {
	db := impl.Db{}
	for i := range many {
		db.Tables = append(db.Tables, tableOf("t"+strconv.Itoa(i), 1, nums(int64(i))))
	}
	return db
}

// Promise 7, what a valid Db is: the numbers of tables, of columns and of rows.
func TestDbOkSizes(t *testing.T) {
	wantDbOk(t, "no table", impl.Db{}, true)
	wantDbOk(t, "a list of no tables", impl.Db{Tables: []impl.Table{}}, true)
	wantDbOk(t, "small", smallDb(), true)
	wantDbOk(t, "MaxTables tables", manyTables(impl.MaxTables), true)
	wantDbOk(t, "one table more", manyTables(impl.MaxTables+1), false)
	for _, cols := range []int{math.MinInt, -1, 0, 1, 2, impl.MaxCols, impl.MaxCols + 1, 1<<32 + 1, math.MaxInt} {
		good := cols >= 1 && cols <= impl.MaxCols
		wantDbOk(t, "empty table", impl.Db{Tables: []impl.Table{tableOf("a", 1), tableOf("r", cols)}}, good)
		if cols >= 0 && cols < 100 {
			full := tableOf("r", cols, make([]impl.Val, cols))
			wantDbOk(t, "a row", impl.Db{Tables: []impl.Table{full}}, good)
		}
	}
	for _, size := range []int{0, 1, 3, 16} {
		bad := tableOf("r", 2, nums(1, 2), make([]impl.Val, size))
		wantDbOk(t, "a row of another length", impl.Db{Tables: []impl.Table{bad}}, false)
		wantDbOk(t, "such a row in the first table", impl.Db{Tables: []impl.Table{bad, tableOf("s", 1)}}, false)
	}
	wantDbOk(t, "a row that is nil", impl.Db{Tables: []impl.Table{tableOf("r", 1, nil)}}, false)
	for _, more := range []int{-1, 0, 1} {
		whole := impl.Db{Tables: []impl.Table{bigTable("r", impl.MaxRows+more)}}
		wantDbOk(t, "rows in one table", whole, more <= 0)
		parts := impl.Db{Tables: []impl.Table{bigTable("a", 400), bigTable("b", 0), bigTable("c", impl.MaxRows-400+more)}}
		wantDbOk(t, "rows in several tables", parts, more <= 0)
	}
	alike := tableOf("r", 1)
	for range impl.MaxRows {
		alike.Rows = append(alike.Rows, row(oddNull(3)))
	}
	wantDbOk(t, "the same row again and again", impl.Db{Tables: []impl.Table{alike}}, true)
	alike.Rows = append(alike.Rows, row(oddNull(3)))
	wantDbOk(t, "and once more", impl.Db{Tables: []impl.Table{alike}}, false)
}

// Promise 7, what a valid Db is: names.
func TestDbOkNames(t *testing.T) {
	good := []string{
		"r", "R", "z9", "a_", "select", "Select", "SELECTED", "NULLS", "table", "row", "COLS", "A", "Z", "a", "z",
		strings.Repeat("n", impl.MaxName), "x" + strings.Repeat("_", impl.MaxName-1),
	}
	bad := []string{
		"", " ", "1", "1r", "_r", "-r", "r-", "r s", "r\n", "\tr", "r.", "r\x00", "é", "ré", "\xff", "@", "[", "`", "{", "r'",
		strings.Repeat("n", impl.MaxName+1), strings.Repeat("n", 10000), " SELECT", "NULL ",
	}
	bad = append(bad, strings.Fields("SELECT DISTINCT FROM WHERE UNION ALL ANY AND OR NOT EXISTS IN IS NULL COUNT MIN MAX")...)
	for _, name := range good {
		wantDbOk(t, name, impl.Db{Tables: []impl.Table{tableOf("other", 1), tableOf(name, 2, nums(1, 2))}}, true)
	}
	for _, name := range bad {
		wantDbOk(t, name, impl.Db{Tables: []impl.Table{tableOf("other", 1), tableOf(name, 2, nums(1, 2))}}, false)
		wantDbOk(t, name, impl.Db{Tables: []impl.Table{tableOf(name, 1), tableOf("other", 1)}}, false)
	}
	twice := manyTables(impl.MaxTables)
	for _, i := range []int{1, 25, impl.MaxTables - 1} {
		db := cloneDb(twice)
		db.Tables[i].Name = db.Tables[i-1].Name
		wantDbOk(t, "one name for two neighbours", db, false)
		db.Tables[i].Name = db.Tables[0].Name
		wantDbOk(t, "one name for two", db, false)
		db.Tables[i].Name = strings.ToUpper(db.Tables[0].Name)
		wantDbOk(t, "names that differ in a letter's size", db, true)
	}
}

func wantRead(t *testing.T, text string, want impl.Db) {
	t.Helper()
	db, code := impl.ReadDb(text)
	if code != 0 || !sameDb(db, want) || !impl.DbOk(db) {
		t.Errorf("%.100q: code %d, %v, not %v", text, code, db, want)
	}
}

func wantReadCode(t *testing.T, text string, want int) {
	t.Helper()
	db, code := impl.ReadDb(text)
	if code != want {
		t.Errorf("%.100q (%d bytes): code %d, not %d", text, len(text), code, want)
	}
	if code != 0 && db.Tables != nil {
		t.Errorf("%.100q: code %d and tables %v", text, code, db.Tables)
	}
}

// Promise 7, texts of valid Dbs.
func TestReadDbTables(t *testing.T) {
	none := impl.Db{}
	for _, text := range []string{"", "\n", " ", "   \n \n\n  ", strings.Repeat("\n", impl.MaxText), strings.Repeat(" ", impl.MaxText)} {
		wantRead(t, text, none)
	}
	r := impl.Db{Tables: []impl.Table{tableOf("r", 2, nums(1, -2), row(null(), num(3)), nums(1, -2))}}
	wantRead(t, "table r 2\nrow 1 -2\nrow NULL 3\nrow 1 -2", r)
	wantRead(t, "table r 2\nrow 1 -2\nrow NULL 3\nrow 1 -2\n", r)
	wantRead(t, "\n\n  table   r  2  \n \n   row  1   -2 \n\nrow NULL 3\n\n  row 1 -2   \n  \n", r)
	wantRead(t, "table r 000002\nrow 01 -02\nrow NULL 000000000000000003\nrow 000000000000000001 -000000000000000002", r)
	wantRead(t, "table b 1\nrow 5\ntable a 1\ntable c 3\nrow 3 2 1\nrow 1 2 3\nrow NULL NULL NULL", impl.Db{Tables: []impl.Table{
		tableOf("b", 1, nums(5)), tableOf("a", 1), tableOf("c", 3, nums(3, 2, 1), nums(1, 2, 3), row(null(), null(), null())),
	}})
	wantRead(t, "table row 1\nrow 1\ntable table 1\nrow 2", impl.Db{Tables: []impl.Table{tableOf("row", 1, nums(1)), tableOf("table", 1, nums(2))}})
	wantRead(t, "table r 1\nrow -0\nrow 0\nrow 00\nrow -00", impl.Db{Tables: []impl.Table{tableOf("r", 1, nums(0), nums(0), nums(0), nums(0))}})
	const most = 999999999999999999
	wantRead(t, "table r 1\nrow 999999999999999999\nrow -999999999999999999", impl.Db{Tables: []impl.Table{tableOf("r", 1, nums(most), nums(-most))}})
	wide := make([]impl.Val, impl.MaxCols)
	wantRead(t, "table r 16\nrow"+strings.Repeat(" 0", 16), impl.Db{Tables: []impl.Table{tableOf("r", 16, wide)}})
	name := strings.Repeat("N", impl.MaxName)
	wantRead(t, "table "+name+" 1", impl.Db{Tables: []impl.Table{tableOf(name, 1)}})
}

// Promise 7, code 1 and the length of the text.
func TestReadDbLength(t *testing.T) {
	for _, text := range []string{"", "table r 1\nrow 1\n", "table r 1\ntable s 2\n"} {
		for _, fill := range []string{" ", "\n"} {
			wantReadCode(t, text+strings.Repeat(fill, impl.MaxText-len(text)), 0)
			wantReadCode(t, text+strings.Repeat(fill, impl.MaxText-len(text)+1), 1)
		}
	}
	wantReadCode(t, strings.Repeat("x", impl.MaxText), 2)
	wantReadCode(t, strings.Repeat("x", impl.MaxText+1), 1)
	wantReadCode(t, strings.Repeat("x", 10*impl.MaxText), 1)
	wantReadCode(t, "table "+strings.Repeat("n", impl.MaxText-8)+" 1", 3)
	wantReadCode(t, "table "+strings.Repeat("n", impl.MaxText-7)+" 1", 1)
}

// Promise 7, code 2: lines of no form, and row lines before the first table line.
func TestReadDbForms(t *testing.T) {
	lines := []string{
		"table", "table r", "table r 1 1", "table 1", "table r s", "table r -1", "table r +1", "table r 0x1", "table r 1.", "table r 1,",
		"table r 0000001", "table r 1234567", "table r NULL", "table r -0", "table r 1\r", "table\tr 1", "table r\t1", "Table r 1",
		"TABLE r 1", "tables r 1", "table r \xb2", "table r 1 ;", "table r ٣",
		"Row 1", "ROW 1", "rows 1", "row,1", "row\t1", "row 1\t", "row 1\r", "row null", "row Null", "row NULLS", "row NULL,", "row -NULL",
		"row -", "row --1", "row +1", "row 1-", "row 1-1", "row - 1", "row 1.0", "row 1e3", "row 0x1", "row 1_0", "row a",
		"row 1000000000000000000", "row -1000000000000000000", "row 0000000000000000001", "row 1 2 3 x", "row x 1", "row ''", "row \x00",
		"1", "NULL", "x", "\t", "\r", "\v", "\f", " \x00 ", "-", "# table r 1", "\u00a0", "\ufefftable r 1",
	}
	for _, line := range lines {
		wantReadCode(t, "table a 1\n"+line, 2)
		wantReadCode(t, "table a 1\nrow 1\n  "+line+"  \nrow 2\n", 2)
		wantReadCode(t, line+"\ntable a 1", 2)
	}
	for _, line := range []string{"row", "row 1", "row NULL", "row 1 2", "  row  1  ", "\n\nrow 1"} {
		wantReadCode(t, line, 2)
		wantReadCode(t, line+"\ntable r 1\nrow 1", 2)
	}
	for c := range 256 {
		code := 2
		if c == ' ' || c == '\n' {
			code = 0
		}
		wantReadCode(t, "table a 1\nrow 1\n"+string([]byte{byte(c)}), code)
		if c >= '0' && c <= '9' || c == '-' {
			code = 0
		}
		if c != '\n' {
			wantReadCode(t, "table a 1\nrow "+string([]byte{byte(c)})+"1", code)
		}
	}
}

// Promise 7, code 3: all lines are of a form, but the Db is not valid.
func TestReadDbInvalid(t *testing.T) {
	many := func(tables int) string {
		out := ""
		for i := range tables {
			out += "table t" + strconv.Itoa(i) + " 1\n"
		}
		return out
	}
	cases := map[string]int{
		"table r 0":                          3,
		"table r 000000":                     3,
		"table r 17":                         3,
		"table r 000016":                     0,
		"table r 999999":                     3,
		"table 1 1":                          3,
		"table - 1":                          3,
		"table r,s 1":                        3,
		"table \t 1":                         3,
		"table r\r 1":                        3,
		"table SELECT 1":                     3,
		"table NULL 1":                       3,
		"table \xff 1":                       3,
		"table r 1\nrow":                     3,
		"table r 1\nrow 1 2":                 3,
		"table r 2\nrow 1":                   3,
		"table r 2\nrow 1 2\nrow 1 2 3":      3,
		"table r 1\nrow 1\ntable s 2\nrow 1": 3,
		"table r 0\nrow":                     3,
		"table r 1\ntable r 1":               3,
		"table r 1\ntable s 1\ntable r 2":    3,
		"table r 1\ntable R 1":               0,
		many(impl.MaxTables):                 0,
		many(impl.MaxTables + 1):             3,
		"table r 1" + strings.Repeat("\nrow 1", impl.MaxRows):                0,
		"table r 1" + strings.Repeat("\nrow 1", impl.MaxRows+1):              3,
		many(2) + strings.Repeat("row 1\n", 999) + "table r 1\nrow 1":        0,
		many(2) + strings.Repeat("row 1\n", 999) + "table r 1\nrow 1\nrow 1": 3,
		"table " + strings.Repeat("n", impl.MaxName) + " 1":                  0,
		"table " + strings.Repeat("n", impl.MaxName+1) + " 1":                3,
		"table r 1\nrow" + strings.Repeat(" 1", 1000):                        3,
	}
	for text, code := range cases {
		wantReadCode(t, text, code)
	}
}

// Promise 7, texts that are wrong in two ways at once.
func TestReadDbOrderOfCodes(t *testing.T) {
	long := strings.Repeat(" ", impl.MaxText)
	wantReadCode(t, "table r 0\n"+long, 1)
	wantReadCode(t, "row 1\n"+long, 1)
	wantReadCode(t, long+"\ntable", 1)
	wantReadCode(t, "table r 0\nx", 2)
	wantReadCode(t, "x\ntable r 0", 2)
	wantReadCode(t, "table r 1\nrow 1 2\nrow null", 2)
	wantReadCode(t, "row 1\ntable r 1\ntable r 1", 2)
	wantReadCode(t, "table r 1\ntable r 1\nrow", 3)
	wantReadCode(t, "table r 1\ntable r 1\ntable", 2)
	wantReadCode(t, "table r 1"+strings.Repeat("\nrow 1", impl.MaxRows+1)+"\nrow x", 2)
	wantReadCode(t, "table SELECT 1\nrow 1 1000000000000000000", 2)
}

// Promise 7 at texts made by chance out of lines that are right, or right but for one byte.
func TestReadDbByChance(t *testing.T) {
	r := rand.New(rand.NewSource(31))
	lines := []string{"table a 1", "table b 2", "table c 3", "row 1", "row 1 2", "row NULL -3 4", "row NULL", "", " ", "row", "table a 2", "table x 0"}
	seen := map[int]int{}
	for range 20000 {
		var parts []string
		for range r.Intn(6) {
			parts = append(parts, lines[r.Intn(len(lines))])
		}
		text := []byte(strings.Join(parts, "\n"))
		if len(text) > 0 && r.Intn(3) == 0 {
			text[r.Intn(len(text))] = " \n\t0-x"[r.Intn(6)]
		}
		want, code := readWant(string(text))
		wantReadCode(t, string(text), code)
		if db, _ := impl.ReadDb(string(text)); !sameDb(db, want) {
			t.Errorf("%q: %v, not %v", text, db, want)
		}
		seen[code]++
	}
	if seen[0] < 1000 || seen[2] < 1000 || seen[3] < 1000 {
		t.Errorf("too few of a code: %v", seen)
	}
}

// readWant reads a short text byte by byte.
func readWant(text string) (impl.Db, int) {
	db := impl.Db{}
	for _, line := range strings.Split(text, "\n") {
		var words []string
		for _, word := range strings.Split(line, " ") {
			if word != "" {
				words = append(words, word)
			}
		}
		if len(words) == 0 {
			continue
		}
		last := len(db.Tables) - 1
		switch {
		case words[0] == "table" && len(words) == 3 && digitsOnly(words[2], 6):
			cols, _ := strconv.Atoi(words[2])
			db.Tables = append(db.Tables, tableOf(words[1], cols))
		case words[0] == "row" && last >= 0:
			vals := []impl.Val{}
			for _, word := range words[1:] {
				if word == "NULL" {
					vals = append(vals, null())
				} else if digitsOnly(strings.TrimPrefix(word, "-"), 18) {
					n, _ := strconv.ParseInt(word, 10, 64)
					vals = append(vals, num(n))
				} else {
					return impl.Db{}, 2
				}
			}
			db.Tables[last].Rows = append(db.Tables[last].Rows, vals)
		default:
			return impl.Db{}, 2
		}
	}
	if !dbWant(db) {
		return impl.Db{}, 3
	}
	return db, 0
}

func digitsOnly(word string, most int) bool {
	return word != "" && len(word) <= most && strings.Trim(word, "0123456789") == ""
}

// The general words: no two lists of an answer share memory, and two answers share none.
func TestReadDbNewMemory(t *testing.T) {
	text := "table a 1\nrow 1\nrow 2\nrow 3\ntable b 2\nrow 4 5\nrow 6 7"
	first, _ := impl.ReadDb(text)
	keep := cloneDb(first)
	second, _ := impl.ReadDb(text)
	for i := range second.Tables {
		table := &second.Tables[i]
		for k := range table.Rows {
			before := cloneDb(second)
			_ = append(table.Rows[k], num(99))
			if !sameDb(second, before) {
				t.Errorf("row %d of table %d has another one behind it", k, i)
			}
			table.Rows[k][0] = num(int64(100*i + k))
		}
		_ = append(table.Rows, nums(98))
	}
	for i := range second.Tables {
		for k := range second.Tables[i].Rows {
			if second.Tables[i].Rows[k][0] != num(int64(100*i+k)) {
				t.Errorf("row %d of table %d shares memory with another one", k, i)
			}
		}
	}
	if !sameDb(first, keep) {
		t.Errorf("two answers share memory: %v", first)
	}
}
