package tests

import (
	"math"
	"math/rand"
	"strings"
	"testing"

	"loop.example/s0035/impl"
)

// stretchOf gives the first place of the stretch of node i, and false when its kids stand anywhere else than they must.
func stretchOf(a impl.Ast, i int) (int, bool) {
	begin := i
	kids := a.Nodes[i].Kids
	for k := len(kids) - 1; k >= 0; k-- {
		if begin == 0 || kids[k] != begin-1 {
			return 0, false
		}
		first, ok := stretchOf(a, begin-1)
		if !ok {
			return 0, false
		}
		begin = first
	}
	return begin, true
}

func depthOf(a impl.Ast, i int) int {
	most := 0
	for _, k := range a.Nodes[i].Kids {
		most = max(most, depthOf(a, k))
	}
	return most + 1
}

// sortOf is the letter of what a node stands for: scalar, source, select, union, cond.
func sortOf(kind int) string {
	return "?ssssfquccccccccc"[kind : kind+1]
}

func goodName(name string) bool {
	return wordForm.MatchString(name) && len(name) <= 64 && !isKeywordWord(name)
}

// goodNode asks for one node alone; kids is one letter for each of its kids.
func goodNode(n impl.Node, kids string) bool {
	zero := impl.Node{K: n.K}
	plain := n
	plain.Kids = nil
	set := func(use func()) bool {
		use()
		return zero.N == plain.N && zero.M == plain.M && zero.S == plain.S && zero.T == plain.T
	}
	flagged := n.M == 0 || n.M == 1
	comparing := n.M >= 1 && n.M <= 6
	switch n.K {
	case 1:
		return set(func() { zero.N = n.N }) && kids == "" && n.N < 1e18 && n.N > -1e18
	case 2:
		return set(func() {}) && kids == ""
	case 3:
		return set(func() { zero.N, zero.S = n.N, n.S }) && kids == "" && n.N >= 0 && n.N < 1e18 && goodName(n.S)
	case 4:
		return set(func() { zero.N, zero.M = n.N, n.M }) && (n.M == 1 && n.N == 0 || n.M >= 2 && n.M <= 4 && n.N == 1) && goodBlock(n.N, kids)
	case 5:
		return set(func() { zero.S, zero.T = n.S, n.T }) && kids == "" && goodName(n.S) && goodName(n.T)
	case 6:
		return set(func() { zero.N, zero.M = n.N, n.M }) && flagged && n.N >= 1 && goodBlock(n.N, kids)
	case 7:
		return set(func() {}) && len(kids) >= 2 && strings.Trim(kids, "q") == ""
	case 8:
		return set(func() { zero.M = n.M }) && comparing && kids == "ss"
	case 9:
		return set(func() { zero.M = n.M }) && flagged && kids == "s"
	case 10:
		return set(func() {}) && (kids == "q" || kids == "u")
	case 11:
		return set(func() { zero.M = n.M }) && flagged && (kids == "sq" || kids == "su")
	case 12:
		return set(func() { zero.M, zero.N = n.M, n.N }) && comparing && (n.N == 1 || n.N == 2) && (kids == "sq" || kids == "su")
	case 13:
		return set(func() {}) && kids == "c"
	case 14, 15:
		return set(func() {}) && len(kids) >= 2 && strings.Trim(kids, "c") == ""
	}
	return false
}

func goodBlock(scalars int64, kids string) bool {
	if int64(len(kids)) < scalars {
		return false
	}
	rest := strings.TrimSuffix(kids[scalars:], "c")
	return strings.Trim(kids[:scalars], "s") == "" && rest != "" && strings.Trim(rest, "f") == ""
}

// okWant says by the words of the document whether an Ast is valid.
func okWant(a impl.Ast) bool {
	last := len(a.Nodes) - 1
	if last < 0 || last >= 10000 {
		return false
	}
	if begin, ok := stretchOf(a, last); !ok || begin != 0 {
		return false
	}
	for _, n := range a.Nodes {
		if n.K < 1 || n.K > 15 {
			return false
		}
		kids := ""
		for _, k := range n.Kids {
			if a.Nodes[k].K < 1 || a.Nodes[k].K > 15 {
				return false
			}
			kids += sortOf(a.Nodes[k].K)
		}
		if !goodNode(n, kids) {
			return false
		}
	}
	return (a.Nodes[last].K == 6 || a.Nodes[last].K == 7) && depthOf(a, last) <= 200
}

func wantOk(t *testing.T, what string, a impl.Ast, want bool) {
	t.Helper()
	unchanged(t, "AstOk", a, func(given impl.Ast) {
		if impl.AstOk(given) != want {
			t.Errorf("%s: AstOk is %v: %v", what, !want, given.Nodes)
		}
	})
	unchanged(t, "Print", a, func(given impl.Ast) {
		if text := impl.Print(given); (text != "") != want {
			t.Errorf("%s: Print gives %q", what, text)
		}
	})
}

// allKinds are trees that have every kind of node between them.
func allKinds() []shape {
	tail := from(sSrc("r", "x"), sEq(1, 2))
	conds := []shape{
		sEq(-1, 1), sOfM(impl.KIsNull, 1, sNull()), sOf(impl.KExists, plainSelect()),
		sOfM(impl.KIn, 1, sInt(1), sOf(impl.KUnion, plainSelect(), plainSelect())),
		sQuant(4, 2, sCol("r", 1), plainSelect()), sOf(impl.KNot, sEq(1, 1)),
		sOf(impl.KAnd, sEq(1, 1), sEq(2, 2), sOf(impl.KOr, sEq(3, 3), sEq(4, 4))),
	}
	out := []shape{
		plainSelect(),
		sSelect(1, []shape{sNull(), sCol("r", 0)}, from(sSrc("r", "r"), sSrc("s", "s"))),
		sSelect(0, []shape{sCountAll(from(sSrc("r", "r"))), sAgg(2, sInt(1), tail), sAgg(3, sNull(), tail)}, from(sSrc("r", "r"))),
		sOf(impl.KUnion, plainSelect(), plainSelect(), plainSelect()),
	}
	for _, c := range conds {
		out = append(out, plainSelect(c))
	}
	return out
}

// Promise 5: every change of one field of one node is judged as the document's words judge it.
func TestAstOkFields(t *testing.T) {
	ints := []int{0, 1, 2, 3, 4, 5, 6, 7, 8, 15, 16, -1, math.MaxInt, math.MinInt}
	longs := []int64{0, 1, 2, 3, 4, -1, 999999999999999999, 1000000000000000000, -999999999999999999, -1000000000000000000, math.MaxInt64, math.MinInt64}
	texts := []string{"", "r", "q", "NULL", "null", "1a", "_a", "a b", "a.", " a", "a ", "é", "a\x00", strings.Repeat("z", 64), strings.Repeat("z", 65)}
	good, bad := 0, 0
	ask := func(a impl.Ast) {
		want := okWant(a)
		wantOk(t, "one field changed", a, want)
		if want {
			good++
		} else {
			bad++
		}
	}
	for _, s := range allKinds() {
		a := s.ast()
		if !okWant(a) {
			t.Fatalf("not a good tree to begin with: %v", a.Nodes)
		}
		for i := range a.Nodes {
			keep := a.Nodes[i]
			n := &a.Nodes[i]
			for kind := -1; kind <= 17; kind++ {
				n.K = kind
				ask(a)
			}
			*n = keep
			for _, m := range ints {
				n.M = m
				ask(a)
			}
			*n = keep
			for _, v := range longs {
				n.N = v
				ask(a)
			}
			*n = keep
			for _, text := range texts {
				n.S = text
				ask(a)
				n.S, n.T = keep.S, text
				ask(a)
				n.T = keep.T
			}
		}
	}
	if good < 200 || bad < 200 {
		t.Errorf("%d good and %d bad: too few to tell", good, bad)
	}
}

// Promise 5: kids in another order, missing, used twice, not used, or out of the list.
func TestAstOkKids(t *testing.T) {
	for _, s := range allKinds() {
		a := s.ast()
		wantOk(t, "as it was made", a, true)
		for i := range a.Nodes {
			keep := append([]int{}, a.Nodes[i].Kids...)
			set := func(kids []int) {
				a.Nodes[i].Kids = kids
				wantOk(t, "kids changed", a, okWant(a))
				a.Nodes[i].Kids = append([]int{}, keep...)
			}
			for k := range keep {
				for _, place := range []int{-1, 0, i - 1, i, i + 1, len(a.Nodes), keep[k] - 1, keep[k] + 1, keep[0], math.MaxInt, math.MinInt} {
					changed := append([]int{}, keep...)
					changed[k] = place
					set(changed)
				}
				set(append(append([]int{}, keep[:k]...), keep[k+1:]...))
				set(append(append([]int{}, keep[:k+1]...), keep[k:]...))
				swapped := append([]int{}, keep...)
				swapped[0], swapped[k] = swapped[k], swapped[0]
				set(swapped)
			}
			for _, more := range []int{-1, 0, i - 1, i, i + 1} {
				set(append(append([]int{}, keep...), more))
				set(append([]int{more}, keep...))
			}
			set(nil)
		}
	}
}

// Promise 5: nodes taken out, put in twice or moved.
func TestAstOkNodes(t *testing.T) {
	for _, s := range allKinds() {
		a := s.ast()
		for i := range a.Nodes {
			out := cloneAst(a)
			out.Nodes = append(out.Nodes[:i], out.Nodes[i+1:]...)
			wantOk(t, "a node taken out", out, okWant(out))
			front := impl.Ast{Nodes: append([]impl.Node{}, a.Nodes[:i]...)}
			wantOk(t, "the front of a list", front, okWant(front))
			twice := cloneAst(a)
			twice.Nodes = append(twice.Nodes, a.Nodes[i])
			wantOk(t, "a node behind the last", twice, false)
			for j := range a.Nodes {
				moved := cloneAst(a)
				moved.Nodes[i], moved.Nodes[j] = moved.Nodes[j], moved.Nodes[i]
				wantOk(t, "two nodes change places", moved, okWant(moved))
			}
		}
	}
	a := plainSelect().ast()
	loose := cloneAst(a)
	loose.Nodes = append([]impl.Node{{K: impl.KInt, N: 1}}, loose.Nodes...)
	loose.Nodes[3].Kids = []int{1, 2}
	wantOk(t, "a node in front that nobody uses", loose, false)
	two := sOf(impl.KUnion, plainSelect(), plainSelect()).ast()
	two.Nodes = two.Nodes[:6]
	wantOk(t, "two queries and nothing above", two, false)
	wantOk(t, "no node", impl.Ast{}, false)
	wantOk(t, "an empty list", impl.Ast{Nodes: []impl.Node{}}, false)
}

// Promise 5: which kids a node may have, and which node may be the last.
func TestAstOkShapes(t *testing.T) {
	sel, src, num, cond := plainSelect(), sSrc("r", "r"), sInt(1), sEq(1, 1)
	union := sOf(impl.KUnion, sel, sel)
	all := []shape{num, sNull(), sCol("r", 1), sCountAll(from(src)), src, sel, union, cond, sOfM(impl.KIsNull, 0, num),
		sOf(impl.KExists, sel), sOfM(impl.KIn, 0, num, sel), sQuant(1, 1, num, sel), sOf(impl.KNot, cond), sOf(impl.KAnd, cond, cond), sOf(impl.KOr, cond, cond)}
	for _, s := range all {
		wantOk(t, "alone", s.ast(), s.n.K == 6 || s.n.K == 7)
	}
	ask := func(s shape) {
		wantOk(t, "some kids", s.ast(), okWant(s.ast()))
	}
	wrap := func(s shape) {
		switch {
		case s.n.K <= 4:
			ask(sSelect(0, []shape{s}, from(src)))
		case s.n.K >= 8:
			ask(plainSelect(s))
		default:
			ask(s)
		}
	}
	heads := []impl.Node{{K: 1}, {K: 2}, {K: 3, S: "r"}, {K: 4, M: 1}, {K: 4, M: 2, N: 1}, {K: 5, S: "r", T: "r"}, {K: 6}, {K: 6, N: 1}, {K: 6, N: 2}, {K: 7}, {K: 8, M: 1}, {K: 9}, {K: 10}, {K: 11}, {K: 12, M: 1, N: 1}, {K: 13}, {K: 14}, {K: 15}}
	for _, head := range heads {
		wrap(shape{n: head})
		for _, a := range all {
			wrap(shape{n: head, kids: []shape{a}})
			for _, b := range all {
				wrap(shape{n: head, kids: []shape{a, b}})
				for _, c := range []shape{num, src, sel, union, cond} {
					wrap(shape{n: head, kids: []shape{a, b, c}})
					wrap(shape{n: head, kids: []shape{num, a, b, c}})
				}
			}
		}
	}
}

// Promise 5: the limits on nodes and on depth, at the edge and one above it.
func TestAstOkLimits(t *testing.T) {
	wide := func(scalars int) shape {
		var list []shape
		for i := 0; i < scalars; i++ {
			list = append(list, sInt(int64(i)))
		}
		return sSelect(0, list, from(sSrc("r", "r")))
	}
	wantOk(t, "MaxNodes nodes", wide(impl.MaxNodes-2).ast(), true)
	wantOk(t, "one node more", wide(impl.MaxNodes-1).ast(), false)
	deep := func(nots int) shape {
		cond := sEq(1, 1)
		for i := 0; i < nots; i++ {
			cond = sOf(impl.KNot, cond)
		}
		return plainSelect(cond)
	}
	wantOk(t, "depth MaxDepth", deep(impl.MaxDepth-3).ast(), true)
	wantOk(t, "one deeper", deep(impl.MaxDepth-2).ast(), false)
	wantOk(t, "much deeper", deep(9000).ast(), false)
	// The deepest kid need not be the last one.
	both := sOf(impl.KUnion, deep(impl.MaxDepth-4), plainSelect())
	wantOk(t, "depth MaxDepth in the first kid", both.ast(), true)
	both = sOf(impl.KUnion, deep(impl.MaxDepth-3), plainSelect())
	wantOk(t, "one deeper in the first kid", both.ast(), false)
	both = sOf(impl.KUnion, plainSelect(), deep(impl.MaxDepth-3))
	wantOk(t, "one deeper in the last kid", both.ast(), false)
	if impl.AstOk(impl.Ast{Nodes: make([]impl.Node, 1000000)}) {
		t.Errorf("a long list of nothing")
	}
}

// Promise 5: what Parse gives with code 0 is valid; changed by chance, trees are judged as the document's words judge them.
func TestAstOkByChance(t *testing.T) {
	r := rand.New(rand.NewSource(5))
	for round := 0; round < 4000; round++ {
		s := grower{r: r}.query(2 + r.Intn(5))
		text := printed(s)
		a, code := impl.Parse(text)
		if len(text) > impl.MaxText {
			continue
		}
		if code != 0 || !impl.AstOk(a) {
			t.Fatalf("%q: code %d, AstOk %v", text, code, impl.AstOk(a))
		}
		spoilAst(r, &a)
		wantOk(t, "changed by chance", a, okWant(a))
	}
}
