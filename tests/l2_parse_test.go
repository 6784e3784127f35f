package tests

import (
	"math/rand"
	"strings"
	"testing"

	"loop.example/s0035/impl"
)

// Promise 4, code 1: the length of the text is asked for first.
func TestParseLength(t *testing.T) {
	text := "SELECT 1 FROM r"
	fill := strings.Repeat(" ", impl.MaxText-len(text))
	wantTree(t, text+fill, plainSelect())
	wantTree(t, fill+text, plainSelect())
	wantCode(t, text+fill+" ", 1)
	wantCode(t, strings.Repeat(" ", impl.MaxText), 4)
	wantCode(t, strings.Repeat(" ", impl.MaxText+1), 1)
	wantCode(t, strings.Repeat("(", impl.MaxText), 3)
	wantCode(t, strings.Repeat("(", impl.MaxText+1), 1)
	wantCode(t, strings.Repeat("#", impl.MaxText), 2)
	wantCode(t, strings.Repeat("#", impl.MaxText+1), 1)
	wantCode(t, strings.Repeat("NOT ", 1000000), 1)
}

// Promise 4, code 2: every byte, alone behind a query and inside one.
func TestParseEveryByte(t *testing.T) {
	for c := 0; c < 256; c++ {
		b := byte(c)
		behind := 2
		switch {
		case b == 32 || b == 10 || b == 9:
			behind = 0
		case 'A' <= b && b <= 'Z' || 'a' <= b && b <= 'z':
			behind = 0
		case '0' <= b && b <= '9' || strings.IndexByte("(),.*=<>", b) >= 0:
			behind = 4
		}
		wantCode(t, "SELECT 1 FROM r "+string([]byte{b}), behind)
		inside := behind
		if b == '_' || '0' <= b && b <= '9' {
			inside = 0
		}
		wantCode(t, "SELECT 1 FROM r"+string([]byte{b}), inside)
	}
	for _, text := range []string{"SELECT 1 FROM é", "SELECT 1 FROM r\u00a0", "SELECT 1\rFROM r", "SELECT 1\vFROM r", "\xef\xbb\xbfSELECT 1 FROM r", "SELECT 'a' FROM r", "SELECT 1 FROM \"r\"", "SELECT 1+1 FROM r", "SELECT 1 FROM r -- r", "SELECT 1 FROM r WHERE 1 != 2"} {
		wantCode(t, text, 2)
	}
}

// Promise 4: blanks part tokens and mean nothing else, and where tokens stay apart they need none.
func TestParseBlanks(t *testing.T) {
	want := sSelect(0, []shape{sInt(-1), sCol("r", 2)}, from(sSrc("r", "x"), sOfM(impl.KCmp, impl.LeOp, sInt(1), sInt(-2))))
	for _, text := range []string{
		"SELECT-1,r.2FROM r x WHERE 1<=-2",
		"SELECT -1 , r . 2 FROM r x WHERE 1 <= -2",
		"\n\tSELECT\n-1\t,\nr\t.\n2\tFROM\nr\tx\nWHERE\t1\n<=\t-2\n\t ",
		"   SELECT   -1   ,   r   .   2   FROM   r   x   WHERE   1   <=   -2   ",
	} {
		wantTree(t, text, want)
	}
	wantCode(t, "SELECT- 1 FROM r", 2)
	wantCode(t, "SELECT1 FROM r", 4)
	wantCode(t, "SELECT 1 FROMr", 4)
	wantCode(t, "SELECT 1 FROM r WHERE 1 < = 2", 4)
	wantCode(t, "SELECT 1 FROM r WHERE 1 < > 2", 4)
	wantCode(t, "SEL ECT 1 FROM r", 4)
	wantCode(t, "SELECT 1 FROM r UNIONALL SELECT 1 FROM r", 4)
	wantTree(t, "SELECT 1 FROM rWHERE", sSelect(0, []shape{sInt(1)}, from(sSrc("rWHERE", "rWHERE"))))
}

// Promise 4: numbers, their digits and their values.
func TestParseNumbers(t *testing.T) {
	nines := strings.Repeat("9", 18)
	cases := []struct {
		text  string
		value int64
	}{
		{"0", 0}, {"-0", 0}, {"00", 0}, {"-00", 0}, {"7", 7}, {"-7", -7}, {"007", 7}, {"-007", -7},
		{"10", 10}, {"0123456789", 123456789}, {nines, 999999999999999999}, {"-" + nines, -999999999999999999},
		{strings.Repeat("0", 18), 0}, {"-" + strings.Repeat("0", 18), 0}, {strings.Repeat("0", 17) + "1", 1},
		{"-" + strings.Repeat("0", 17) + "1", -1}, {"100000000000000000", 100000000000000000},
	}
	for _, c := range cases {
		want := sSelect(0, []shape{sInt(c.value)}, from(sSrc("r", "r")))
		wantTree(t, "SELECT "+c.text+" FROM r", want)
		if c.value >= 0 {
			wantTree(t, "SELECT r."+c.text+" FROM r", sSelect(0, []shape{sCol("r", c.value)}, from(sSrc("r", "r"))))
		} else {
			wantCode(t, "SELECT r."+c.text+" FROM r", 4)
		}
		wantCode(t, "SELECT "+strings.Repeat("0", 19-len(strings.TrimPrefix(c.text, "-")))+strings.TrimPrefix(c.text, "-")+" FROM r", 2)
	}
	for _, text := range []string{"9" + nines, "-9" + nines, strings.Repeat("0", 19), "-" + strings.Repeat("0", 19), strings.Repeat("1", 40)} {
		wantCode(t, "SELECT "+text+" FROM r", 2)
		wantCode(t, "SELECT r."+text+" FROM r", 2)
	}
	for _, text := range []string{"-", "--1", "1-", "- 1", "-r", "-(", "-.1"} {
		wantCode(t, "SELECT "+text+" FROM r", 2)
	}
	for _, text := range []string{"1-1", "1 1", "1.1", "1r", "r", "r.", "r.r", ".1", "r.1.1", "r..1", "1,", ",1", ""} {
		wantCode(t, "SELECT "+text+" FROM r", 4)
	}
}

// Promise 4: words, their length, and the keywords in capital letters only.
func TestParseWords(t *testing.T) {
	long := strings.Repeat("aB_9", impl.MaxName/4)
	for _, name := range []string{"a", "Z", "a_", "a9", "A_b_9", "z", long, "select", "Select", "SELECt", "SELECT_", "SELECT1", "nULL", "MINI", "MA", "ORDER", "X"} {
		wantTree(t, "SELECT "+name+".1 FROM "+name, sSelect(0, []shape{sCol(name, 1)}, from(sSrc(name, name))))
	}
	for _, name := range []string{long + "a", long + "_", long + "0", strings.Repeat("x", 1000), "_a", "_"} {
		wantCode(t, "SELECT 1 FROM "+name, 2)
		wantCode(t, "SELECT "+name+".1 FROM r", 2)
	}
	wantCode(t, "SELECT 1 FROM 1"+long, 4)
	for _, word := range keywordWords {
		wantCode(t, "SELECT 1 FROM "+word, 4)
		wantCode(t, "SELECT "+word+".1 FROM r", 4)
		small := strings.ToLower(word)
		wantTree(t, "SELECT 1 FROM r "+small, sSelect(0, []shape{sInt(1)}, from(sSrc("r", small))))
		if word != "UNION" && word != "WHERE" {
			wantCode(t, "SELECT 1 FROM r "+word+" r", 4)
		}
	}
	wantCode(t, "select 1 from r", 4)
	wantCode(t, "SELECT 1 from r", 4)
	wantCode(t, "SELECT null FROM r", 4)
	wantCode(t, "SELECT 1 FROM r where 1 = 1", 4)
	wantCode(t, "SELECT 1 FROM r WHERE not 1 = 1", 4)
}

// Promise 4: every comparison, and the longer sign where two are possible.
func TestParseSigns(t *testing.T) {
	for op := impl.EqOp; op <= impl.GeOp; op++ {
		sign := opText(op)
		wantTree(t, "SELECT 1 FROM r WHERE 1"+sign+"2", plainSelect(sOfM(impl.KCmp, op, sInt(1), sInt(2))))
		wantTree(t, "SELECT 1 FROM r WHERE 1"+sign+"-2", plainSelect(sOfM(impl.KCmp, op, sInt(1), sInt(-2))))
		wantTree(t, "SELECT 1 FROM r WHERE 1"+sign+"ANY(SELECT 1 FROM r)", plainSelect(sQuant(op, 1, sInt(1), plainSelect())))
		wantTree(t, "SELECT 1 FROM r WHERE 1"+sign+"ALL(SELECT 1 FROM r)", plainSelect(sQuant(op, 2, sInt(1), plainSelect())))
	}
	for _, sign := range []string{"==", "=<", "=>", "><", "<<", ">>", "<>=", "<=>", ">==", "", ".", ",", "*", "AND"} {
		wantCode(t, "SELECT 1 FROM r WHERE 1 "+sign+" 2", 4)
	}
}

// Promise 4: one tree of every kind of node, node by node.
func TestParseKinds(t *testing.T) {
	inner := plainSelect()
	one := "SELECT 1 FROM r"
	conds := []struct {
		text string
		want shape
	}{
		{"1 = NULL", sOfM(impl.KCmp, 1, sInt(1), sNull())},
		{"r.1 IS NULL", sOfM(impl.KIsNull, 0, sCol("r", 1))},
		{"r.1 IS NOT NULL", sOfM(impl.KIsNull, 1, sCol("r", 1))},
		{"NULL IS NULL", sOfM(impl.KIsNull, 0, sNull())},
		{"EXISTS (" + one + ")", sOf(impl.KExists, inner)},
		{"EXISTS (" + one + " UNION ALL " + one + ")", sOf(impl.KExists, sOf(impl.KUnion, inner, inner))},
		{"1 IN (" + one + ")", sOfM(impl.KIn, 0, sInt(1), inner)},
		{"1 NOT IN (" + one + ")", sOfM(impl.KIn, 1, sInt(1), inner)},
		{"1 IN (" + one + " UNION ALL " + one + " UNION ALL " + one + ")", sOfM(impl.KIn, 0, sInt(1), sOf(impl.KUnion, inner, inner, inner))},
		{"NULL <> ANY (" + one + ")", sQuant(2, 1, sNull(), inner)},
		{"NULL >= ALL (" + one + ")", sQuant(6, 2, sNull(), inner)},
		{"NOT 1 = 2", sOf(impl.KNot, sEq(1, 2))},
		{"NOT NOT 1 = 2", sOf(impl.KNot, sOf(impl.KNot, sEq(1, 2)))},
		{"NOT 1 IN (" + one + ")", sOf(impl.KNot, sOfM(impl.KIn, 0, sInt(1), inner))},
		{"NOT EXISTS (" + one + ")", sOf(impl.KNot, sOf(impl.KExists, inner))},
		{"(SELECT COUNT(*) FROM r) = 1", sOfM(impl.KCmp, 1, sCountAll(from(sSrc("r", "r"))), sInt(1))},
		{"1 < (SELECT COUNT(r.2) FROM r)", sOfM(impl.KCmp, 3, sInt(1), sAgg(2, sCol("r", 2), from(sSrc("r", "r"))))},
		{"(SELECT MIN(NULL) FROM r a, s WHERE 1 = 2) IS NULL", sOfM(impl.KIsNull, 0, sAgg(3, sNull(), from(sSrc("r", "a"), sSrc("s", "s"), sEq(1, 2))))},
		{"(SELECT MAX((SELECT MIN(1) FROM s)) FROM r) IN (" + one + ")", sOfM(impl.KIn, 0, sAgg(4, sAgg(3, sInt(1), from(sSrc("s", "s"))), from(sSrc("r", "r"))), inner)},
	}
	for _, c := range conds {
		wantTree(t, one+" WHERE "+c.text, plainSelect(c.want))
		wantTree(t, one+" WHERE ("+c.text+")", plainSelect(c.want))
		wantTree(t, one+" WHERE NOT(("+c.text+"))", plainSelect(sOf(impl.KNot, c.want)))
		wantTree(t, one+" WHERE "+c.text+" AND "+c.text, plainSelect(sOf(impl.KAnd, c.want, c.want)))
		wantTree(t, one+" WHERE "+c.text+" OR "+c.text, plainSelect(sOf(impl.KOr, c.want, c.want)))
	}
	wantTree(t, "SELECT DISTINCT NULL, 1, r.1, (SELECT COUNT(1) FROM r) FROM r, s, s t",
		sSelect(1, []shape{sNull(), sInt(1), sCol("r", 1), sAgg(2, sInt(1), from(sSrc("r", "r")))}, from(sSrc("r", "r"), sSrc("s", "s"), sSrc("s", "t"))))
	wantTree(t, one+" UNION ALL SELECT DISTINCT 1, 2 FROM r WHERE 1 = 1 UNION ALL "+one,
		sOf(impl.KUnion, inner, sSelect(1, []shape{sInt(1), sInt(2)}, from(sSrc("r", "r"), sEq(1, 1))), inner))
}

// Promise 4: the flat list itself, kids first and the whole query last.
func TestParseList(t *testing.T) {
	got, code := impl.Parse("SELECT 1, r.2 FROM r WHERE 3 = 4 AND NOT 5 IS NULL UNION ALL SELECT NULL FROM s x, s")
	want := []impl.Node{
		{K: 1, N: 1},
		{K: 3, N: 2, S: "r"},
		{K: 5, S: "r", T: "r"},
		{K: 1, N: 3},
		{K: 1, N: 4},
		{K: 8, M: 1, Kids: []int{3, 4}},
		{K: 1, N: 5},
		{K: 9, Kids: []int{6}},
		{K: 13, Kids: []int{7}},
		{K: 14, Kids: []int{5, 8}},
		{K: 6, N: 2, Kids: []int{0, 1, 2, 9}},
		{K: 2},
		{K: 5, S: "s", T: "x"},
		{K: 5, S: "s", T: "s"},
		{K: 6, N: 1, Kids: []int{11, 12, 13}},
		{K: 7, Kids: []int{10, 14}},
	}
	if code != 0 || !sameAst(got, impl.Ast{Nodes: want}) {
		t.Errorf("code %d, %v", code, got.Nodes)
	}
}

// Promise 4: a chain is one node, whatever its length; AND holds tighter than OR; brackets part chains.
func TestParseChains(t *testing.T) {
	for length := 1; length <= 40; length++ {
		for word, kind := range map[string]int{"AND": impl.KAnd, "OR": impl.KOr} {
			var texts []string
			var parts []shape
			for i := 0; i < length; i++ {
				texts = append(texts, "1=1")
				parts = append(parts, sEq(1, 1))
			}
			want := sOf(kind, parts...)
			if length == 1 {
				want = parts[0]
			}
			chain := strings.Join(texts, " "+word+" ")
			wantTree(t, "SELECT 1 FROM r WHERE "+chain, plainSelect(want))
			wantTree(t, "SELECT 1 FROM r WHERE (("+chain+"))", plainSelect(want))
		}
	}
	a, b, c, d := sEq(1, 1), sEq(2, 2), sEq(3, 3), sEq(4, 4)
	and := func(parts ...shape) shape { return sOf(impl.KAnd, parts...) }
	or := func(parts ...shape) shape { return sOf(impl.KOr, parts...) }
	not := func(part shape) shape { return sOf(impl.KNot, part) }
	cases := []struct {
		text string
		want shape
	}{
		{"a AND b OR c AND d", or(and(a, b), and(c, d))},
		{"a OR b AND c OR d", or(a, and(b, c), d)},
		{"a AND (b OR c) AND d", and(a, or(b, c), d)},
		{"(a AND b) AND c", and(and(a, b), c)},
		{"a AND (b AND c)", and(a, and(b, c))},
		{"(a OR b) OR c", or(or(a, b), c)},
		{"a OR (b OR c) OR d", or(a, or(b, c), d)},
		{"(a AND b) OR (c AND d)", or(and(a, b), and(c, d))},
		{"((a AND b)) OR c", or(and(a, b), c)},
		{"NOT a AND b", and(not(a), b)},
		{"NOT (a AND b)", not(and(a, b))},
		{"NOT a OR NOT b AND NOT c", or(not(a), and(not(b), not(c)))},
		{"NOT NOT (a OR b) AND c", and(not(not(or(a, b))), c)},
		{"(a AND b AND c) AND (a OR b OR c)", and(and(a, b, c), or(a, b, c))},
	}
	for _, k := range cases {
		text := strings.NewReplacer("a", "1=1", "b", "2=2", "c", "3=3", "d", "4=4").Replace(k.text)
		wantTree(t, "SELECT 1 FROM r WHERE "+text, plainSelect(k.want))
	}
}

// Promise 4: brackets where the grammar has none.
func TestParseBrackets(t *testing.T) {
	one := "SELECT 1 FROM r"
	for _, cond := range []string{
		"(1) = 1", "1 = (1)", "(NULL) IS NULL", "(r.1) = 1", "((SELECT COUNT(*) FROM r)) = 1", "1 = ((SELECT COUNT(*) FROM r))",
		"(" + one + ")", "(" + one + ") = 1", "1 = (" + one + ")", "EXISTS ((" + one + "))", "EXISTS " + one, "1 IN " + one, "1 IN ((" + one + "))",
		"1 IN (1)", "1 IN ()", "1 = ANY 1", "1 = ANY (1)", "1 = ALL ((" + one + "))", "()", "(1 = 1", "1 = 1)", "(1 = 1))", "((1 = 1)", "NOT", "(NOT) 1 = 1",
		"NOT ()", "(1 = 1) IS NULL", "(1 = 1) = (1 = 1)", "EXISTS (1 = 1)", "(SELECT COUNT(*)) = 1", "(SELECT COUNT * FROM r) = 1", "(SELECT COUNT() FROM r) = 1",
		"(SELECT DISTINCT COUNT(*) FROM r) = 1", "(SELECT MIN(*) FROM r) = 1", "(SELECT MAX(*) FROM r) = 1", "(SELECT MIN(1, 2) FROM r) = 1",
		"(SELECT COUNT(*), COUNT(*) FROM r) = 1", "(SELECT COUNT(*) FROM r UNION ALL SELECT COUNT(*) FROM r) = 1", "(SELECT MIN((1)) FROM r) = 1", "(SELECT MIN(MAX(1)) FROM r) = 1",
		"1 NOT = 1", "1 NOT NULL", "1 IS 1", "1 IS NOT IN (" + one + ")", "1 ANY = (" + one + ")", "1 = NOT ANY (" + one + ")", "1 IS NOT NOT NULL", "1 NOT NOT IN (" + one + ")",
		"1 = 1 AND", "AND 1 = 1", "1 = 1 OR OR 1 = 1", "1 = 1 1 = 1", "1 = 1 = 1", "WHERE 1 = 1",
	} {
		wantCode(t, one+" WHERE "+cond, 4)
	}
	for _, text := range []string{
		"(" + one + ")", one + " UNION ALL (" + one + ")", one + " UNION " + one, one + " ALL " + one, one + " UNION ALL ALL " + one, "UNION ALL " + one,
		"SELECT (1) FROM r", "SELECT (r.1) FROM r", "SELECT * FROM r", "SELECT COUNT(*) FROM r", "SELECT DISTINCT FROM r", "SELECT DISTINCT DISTINCT 1 FROM r", "SELECT ALL 1 FROM r",
		"SELECT FROM r", "SELECT 1 FROM", "SELECT 1 FROM (r)", "SELECT 1 FROM r,", "SELECT 1 FROM ,r", "SELECT 1 FROM r s t", "SELECT 1 FROM r.1", "SELECT 1 FROM 1", "SELECT 1 FROM (" + one + ")",
		"SELECT 1 FROM r WHERE", "SELECT 1 WHERE 1 = 1", "SELECT 1 = 1 FROM r", "FROM r", one + " " + one, one + " ,", "SELECT 1 2 FROM r",
	} {
		wantCode(t, text, 4)
	}
}

// aggTower is a tree of aggregates in one another, with its text.
func aggTower(levels int) (string, shape) {
	text, s := "1", sInt(1)
	for i := 0; i < levels; i++ {
		text = "(SELECT MIN(" + text + ") FROM r)"
		s = sAgg(3, s, from(sSrc("r", "r")))
	}
	return "SELECT " + text + " FROM r", sSelect(0, []shape{s}, from(sSrc("r", "r")))
}

// Promise 4, codes 3 and 5: the limits on open brackets and on depth.
func TestParseLimits(t *testing.T) {
	base := "SELECT 1 FROM r WHERE "
	open := func(n int) string { return strings.Repeat("(", n) + "1=1" + strings.Repeat(")", n) }
	wantTree(t, base+open(impl.MaxOpen), plainSelect(sEq(1, 1)))
	wantCode(t, base+open(impl.MaxOpen+1), 3)
	wantTree(t, base+open(impl.MaxOpen)+"AND"+open(impl.MaxOpen), plainSelect(sOf(impl.KAnd, sEq(1, 1), sEq(1, 1))))
	wantCode(t, base+open(3)+"AND"+open(impl.MaxOpen+1), 3)
	wantCode(t, base+open(impl.MaxOpen+1)+"AND"+open(3), 3)
	// The brackets are counted in the list of tokens, whether or not one closes what another has opened.
	wantCode(t, strings.Repeat(")", 5)+strings.Repeat("(", impl.MaxOpen+5), 4)
	wantCode(t, strings.Repeat(")", 5)+strings.Repeat("(", impl.MaxOpen+6), 3)
	wantCode(t, strings.Repeat("(", impl.MaxOpen)+")((", 3)
	wantCode(t, strings.Repeat("(", impl.MaxOpen)+"))((", 4)
	wantCode(t, strings.Repeat("()", 3000), 4)

	// A comparison has depth 2 and the select around it one more than the cond.
	deep := func(nots int) shape {
		cond := sEq(1, 1)
		for i := 0; i < nots; i++ {
			cond = sOf(impl.KNot, cond)
		}
		return plainSelect(cond)
	}
	wantTree(t, base+strings.Repeat("NOT ", impl.MaxDepth-3)+"1=1", deep(impl.MaxDepth-3))
	wantTree(t, base+strings.Repeat("NOT(", impl.MaxDepth-3)+"1=1"+strings.Repeat(")", impl.MaxDepth-3), deep(impl.MaxDepth-3))
	wantCode(t, base+strings.Repeat("NOT ", impl.MaxDepth-2)+"1=1", 5)
	wantCode(t, base+strings.Repeat("NOT ", 4990)+"1=1", 5)
	wantCode(t, base+strings.Repeat("NOT ", 4990)+"1=", 4)

	text, tree := aggTower(impl.MaxDepth - 2)
	wantTree(t, text, tree)
	text, _ = aggTower(impl.MaxDepth - 1)
	wantCode(t, text, 5)
	text, _ = aggTower(impl.MaxOpen / 2)
	wantCode(t, text, 5)
	text, _ = aggTower(impl.MaxOpen/2 + 1)
	wantCode(t, text, 3)
}

// Promise 4, code 5: the limit on nodes, which a text within MaxText can pass by short chains in a long one.
func TestParseManyNodes(t *testing.T) {
	groups := func(n int) string { return strings.Repeat("1=1AND 1=1OR ", n-1) + "1=1AND 1=1" }
	text := "SELECT 1 FROM r WHERE " + groups((impl.MaxNodes-4)/7)
	got, code := impl.Parse(text)
	if code != 0 || len(got.Nodes) != impl.MaxNodes || !impl.AstOk(got) {
		t.Errorf("code %d, %d nodes", code, len(got.Nodes))
	}
	wantCode(t, text+" OR 1=1", 5)
	wantCode(t, strings.Replace(text, "SELECT 1", "SELECT 1,1", 1), 5)
	wantCode(t, strings.Replace(text, "WHERE 1", "WHERE NOT 1", 1), 5)
	wantCode(t, strings.Replace(text, "FROM r", "FROM r,r", 1), 5)
	wantCode(t, text+" OR", 4)
}

// Promise 4: of two things that are wrong the first in the list speaks.
func TestParseOrderOfCodes(t *testing.T) {
	tooLong := strings.Repeat(" ", impl.MaxText)
	noToken := " ; "
	tooOpen := strings.Repeat("(", impl.MaxOpen+1)
	noQuery := "SELECT SELECT "
	tooDeep := "SELECT 1 FROM r WHERE " + strings.Repeat("NOT ", impl.MaxDepth) + "1=1"
	texts := [][]string{{tooLong, noToken}, {tooLong, tooOpen}, {tooLong, noQuery}, {tooLong, tooDeep}, {noToken, tooOpen}, {noToken, noQuery}, {noToken, tooDeep}, {tooOpen, noQuery}, {tooOpen, tooDeep}, {noQuery, tooDeep}}
	codes := []int{1, 1, 1, 1, 2, 2, 2, 3, 3, 4}
	for i, pair := range texts {
		wantCode(t, pair[0]+pair[1], codes[i])
		wantCode(t, pair[1]+pair[0], codes[i])
	}
	wantCode(t, tooDeep, 5)
	wantCode(t, tooOpen+"-", 2)
	wantCode(t, tooOpen+strings.Repeat("9", 19), 2)
	wantCode(t, tooOpen+strings.Repeat("x", 65), 2)
	wantCode(t, "", 4)
	wantCode(t, " \n\t", 4)
}

// Promise 4: trees made by chance are read back from a loose spelling.
func TestParseLooseSpelling(t *testing.T) {
	r := rand.New(rand.NewSource(6))
	for round := 0; round < 3000; round++ {
		s := grower{r: r}.query(2 + r.Intn(6))
		text := joined(r, speller{r: r}.query(s))
		if len(text) <= impl.MaxText {
			wantTree(t, text, s)
		}
	}
}

// Every answer of Parse is new memory.
func TestParseNewMemory(t *testing.T) {
	text := "SELECT 1, 2 FROM r WHERE 1 = 1 AND 2 = 2 OR 3 = 3 UNION ALL SELECT 1, 2 FROM r"
	first, _ := impl.Parse(text)
	keep := cloneAst(first)
	second, _ := impl.Parse(text)
	for i := range second.Nodes {
		n := &second.Nodes[i]
		for k := range n.Kids {
			n.Kids[k] = -1
		}
		n.Kids = append(n.Kids, -7, -7, -7)
		n.K = 0
	}
	if !sameAst(first, keep) {
		t.Errorf("a second answer shares memory with the first: %v", first)
	}
	for i := range first.Nodes {
		_ = append(first.Nodes[i].Kids, -7, -7, -7)
	}
	if !sameAst(first, keep) {
		t.Errorf("two lists of kids share memory: %v", first)
	}
}
