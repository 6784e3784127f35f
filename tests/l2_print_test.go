package tests

import (
	"math/rand"
	"strings"
	"testing"

	"loop.example/s0035/impl"
)

func wantPrint(t *testing.T, s shape, want string) {
	t.Helper()
	if got := impl.Print(s.ast()); got != want {
		t.Errorf("printed %q, not %q", got, want)
	}
	if back, code := impl.Parse(want); code != 0 || !sameAst(back, s.ast()) {
		t.Errorf("%q: code %d, %v", want, code, back.Nodes)
	}
}

// Promise 6: each kind of node, word for word.
func TestPrintKinds(t *testing.T) {
	r := sSrc("r", "r")
	wantPrint(t, plainSelect(), "SELECT 1 FROM r")
	wantPrint(t, sSelect(1, []shape{sInt(-5), sNull(), sCol("x", 0)}, from(sSrc("r", "x"), r)), "SELECT DISTINCT -5 , NULL , x . 0 FROM r x , r")
	wantPrint(t, sSelect(0, []shape{sInt(999999999999999999), sInt(-999999999999999999), sInt(0)}, from(r)), "SELECT 999999999999999999 , -999999999999999999 , 0 FROM r")
	wantPrint(t, sOf(impl.KUnion, plainSelect(), plainSelect(sEq(1, 2)), plainSelect()), "SELECT 1 FROM r UNION ALL SELECT 1 FROM r WHERE 1 = 2 UNION ALL SELECT 1 FROM r")
	wantPrint(t, sSelect(0, []shape{sCountAll(from(r)), sAgg(2, sInt(1), from(r)), sAgg(3, sNull(), from(r, sSrc("s", "t"), sEq(1, 2))), sAgg(4, sCol("r", 1), from(r))}, from(r)),
		"SELECT ( SELECT COUNT ( * ) FROM r ) , ( SELECT COUNT ( 1 ) FROM r ) , ( SELECT MIN ( NULL ) FROM r , s t WHERE 1 = 2 ) , ( SELECT MAX ( r . 1 ) FROM r ) FROM r")
	for op, sign := range map[int]string{1: "=", 2: "<>", 3: "<", 4: "<=", 5: ">", 6: ">="} {
		wantPrint(t, plainSelect(sOfM(impl.KCmp, op, sInt(1), sInt(-2))), "SELECT 1 FROM r WHERE 1 "+sign+" -2")
		wantPrint(t, plainSelect(sQuant(op, 1, sInt(1), plainSelect())), "SELECT 1 FROM r WHERE 1 "+sign+" ANY ( SELECT 1 FROM r )")
		wantPrint(t, plainSelect(sQuant(op, 2, sInt(1), plainSelect())), "SELECT 1 FROM r WHERE 1 "+sign+" ALL ( SELECT 1 FROM r )")
	}
	wantPrint(t, plainSelect(sOfM(impl.KIsNull, 0, sNull())), "SELECT 1 FROM r WHERE NULL IS NULL")
	wantPrint(t, plainSelect(sOfM(impl.KIsNull, 1, sNull())), "SELECT 1 FROM r WHERE NULL IS NOT NULL")
	wantPrint(t, plainSelect(sOfM(impl.KIn, 0, sNull(), plainSelect())), "SELECT 1 FROM r WHERE NULL IN ( SELECT 1 FROM r )")
	wantPrint(t, plainSelect(sOfM(impl.KIn, 1, sNull(), plainSelect())), "SELECT 1 FROM r WHERE NULL NOT IN ( SELECT 1 FROM r )")
	wantPrint(t, plainSelect(sOf(impl.KExists, sOf(impl.KUnion, plainSelect(), plainSelect()))), "SELECT 1 FROM r WHERE EXISTS ( SELECT 1 FROM r UNION ALL SELECT 1 FROM r )")
	wantPrint(t, plainSelect(sOf(impl.KNot, sOf(impl.KNot, sEq(1, 1)))), "SELECT 1 FROM r WHERE NOT NOT 1 = 1")
}

// Promise 6: brackets around conds stand where they must and nowhere else.
func TestPrintBrackets(t *testing.T) {
	a, b := sEq(1, 1), sEq(2, 2)
	and, or, not := sOf(impl.KAnd, a, b), sOf(impl.KOr, a, b), sOf(impl.KNot, a)
	exists := sOf(impl.KExists, plainSelect())
	texts := []struct {
		cond shape
		text string
	}{{and, "1 = 1 AND 2 = 2"}, {or, "1 = 1 OR 2 = 2"}, {not, "NOT 1 = 1"}, {a, "1 = 1"}, {exists, "EXISTS ( SELECT 1 FROM r )"}}
	in := func(text string, kind int, kinds ...int) string {
		for _, k := range kinds {
			if k == kind {
				return "( " + text + " )"
			}
		}
		return text
	}
	front := "SELECT 1 FROM r WHERE "
	for _, c := range texts {
		k := c.cond.n.K
		wantPrint(t, plainSelect(c.cond), front+c.text)
		wantPrint(t, plainSelect(sOf(impl.KNot, c.cond)), front+"NOT "+in(c.text, k, impl.KAnd, impl.KOr))
		wantPrint(t, plainSelect(sOf(impl.KAnd, c.cond, a, c.cond)), front+in(c.text, k, impl.KAnd, impl.KOr)+" AND 1 = 1 AND "+in(c.text, k, impl.KAnd, impl.KOr))
		wantPrint(t, plainSelect(sOf(impl.KOr, c.cond, a, c.cond)), front+in(c.text, k, impl.KOr)+" OR 1 = 1 OR "+in(c.text, k, impl.KOr))
	}
	wantPrint(t, plainSelect(sOf(impl.KOr, sOf(impl.KAnd, or, and), sOf(impl.KOr, or, and))),
		front+"( 1 = 1 OR 2 = 2 ) AND ( 1 = 1 AND 2 = 2 ) OR ( ( 1 = 1 OR 2 = 2 ) OR 1 = 1 AND 2 = 2 )")
}

// Promise 6: a source whose names are the same is written once, however it was read.
func TestPrintReread(t *testing.T) {
	cases := []struct{ text, want string }{
		{"SELECT\tr.01\nFROM r r,s  s,r s", "SELECT r . 1 FROM r , s , r s"},
		{"SELECT -0,-007,000 FROM r WHERE((1=1))", "SELECT 0 , -7 , 0 FROM r WHERE 1 = 1"},
		{"SELECT 1 FROM r WHERE NOT(NOT(1=1)AND(2=2))", "SELECT 1 FROM r WHERE NOT ( NOT 1 = 1 AND 2 = 2 )"},
		{"SELECT 1 FROM r WHERE((1=1 OR 2=2)OR(3=3 AND 4=4))", "SELECT 1 FROM r WHERE ( 1 = 1 OR 2 = 2 ) OR 3 = 3 AND 4 = 4"},
		{"SELECT 1 FROM r WHERE(EXISTS(SELECT 1 FROM r WHERE(1=1)))", "SELECT 1 FROM r WHERE EXISTS ( SELECT 1 FROM r WHERE 1 = 1 )"},
	}
	for _, c := range cases {
		a, _ := impl.Parse(c.text)
		if got := impl.Print(a); got != c.want {
			t.Errorf("%q is printed %q, not %q", c.text, got, c.want)
		}
	}
}

// Promise 6: trees made by chance are printed with exactly the tokens that must be, and read back.
func TestPrintByChance(t *testing.T) {
	r := rand.New(rand.NewSource(7))
	for round := 0; round < 3000; round++ {
		s := grower{r: r}.query(2 + r.Intn(6))
		unchanged(t, "Print", s.ast(), func(a impl.Ast) {
			text := impl.Print(a)
			if text != printed(s) {
				t.Fatalf("printed %q, not %q", text, printed(s))
			}
			back, code := impl.Parse(text)
			if len(text) <= impl.MaxText && (code != 0 || !sameAst(back, a)) {
				t.Fatalf("%q: code %d, %v", text, code, back.Nodes)
			}
			if len(text) > impl.MaxText && code != 1 {
				t.Fatalf("%d bytes: code %d", len(text), code)
			}
		})
	}
}

// Promise 6: the deepest trees, those with the most open brackets among them, are read back.
func TestPrintDeepest(t *testing.T) {
	text, tree := aggTower(impl.MaxDepth - 2)
	a, _ := impl.Parse(text)
	if got := impl.Print(a); got != printed(tree) {
		t.Errorf("printed %.100q", got)
	}
	if back, code := impl.Parse(impl.Print(a)); code != 0 || !sameAst(back, a) {
		t.Errorf("code %d", code)
	}
	cond := sEq(1, 1)
	for i := 0; i < impl.MaxDepth-3; i++ {
		cond = sOf([]int{impl.KAnd, impl.KOr}[i%2], cond, sEq(2, 2))
	}
	text = impl.Print(plainSelect(cond).ast())
	if back, code := impl.Parse(text); code != 0 || !sameAst(back, plainSelect(cond).ast()) {
		t.Errorf("%d bytes: code %d", len(text), code)
	}
}

// Promise 6 asks for texts within MaxText; a longer one is printed all the same, and Parse says that it is too long.
func TestPrintLong(t *testing.T) {
	name := strings.Repeat("n", impl.MaxName)
	var list []shape
	for i := 0; i < 9998; i++ {
		list = append(list, sCol(name, 1))
	}
	s := sSelect(0, list, from(sSrc(name, name)))
	text := impl.Print(s.ast())
	if text != printed(s) {
		t.Errorf("%d bytes", len(text))
	}
	wantCode(t, text, 1)
}
