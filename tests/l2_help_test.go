package tests

import (
	"math/rand"
	"reflect"
	"strconv"
	"strings"
	"testing"

	"loop.example/s0035/impl"
)

// shape is a tree to test with: a node without its kids, and the trees below it.
type shape struct {
	n    impl.Node
	kids []shape
}

func lay(nodes []impl.Node, s shape) []impl.Node {
	n := s.n
	n.Kids = []int{}
	for _, kid := range s.kids {
		nodes = lay(nodes, kid)
		n.Kids = append(n.Kids, len(nodes)-1)
	}
	return append(nodes, n)
}

func (s shape) ast() impl.Ast {
	return impl.Ast{Nodes: lay(nil, s)}
}

func sInt(n int64) shape {
	return shape{n: impl.Node{K: impl.KInt, N: n}}
}

func sNull() shape {
	return shape{n: impl.Node{K: impl.KNull}}
}

func sCol(s string, n int64) shape {
	return shape{n: impl.Node{K: impl.KCol, S: s, N: n}}
}

func sSrc(s string, t string) shape {
	return shape{n: impl.Node{K: impl.KSrc, S: s, T: t}}
}

// from are the kids behind the scalars of a block.
func from(kids ...shape) []shape {
	return kids
}

func sCountAll(rest []shape) shape {
	return shape{n: impl.Node{K: impl.KAgg, M: 1}, kids: rest}
}

func sAgg(m int, arg shape, rest []shape) shape {
	return shape{n: impl.Node{K: impl.KAgg, M: m, N: 1}, kids: append([]shape{arg}, rest...)}
}

func sSelect(distinct int, scalars []shape, rest []shape) shape {
	n := impl.Node{K: impl.KSelect, M: distinct, N: int64(len(scalars))}
	return shape{n: n, kids: append(append([]shape{}, scalars...), rest...)}
}

// sOf is a node of a kind that uses none of the fields.
func sOf(kind int, kids ...shape) shape {
	return shape{n: impl.Node{K: kind}, kids: kids}
}

// sOfM is a node of a kind that uses M alone.
func sOfM(kind int, m int, kids ...shape) shape {
	return shape{n: impl.Node{K: kind, M: m}, kids: kids}
}

func sQuant(op int, which int64, scalar shape, query shape) shape {
	return shape{n: impl.Node{K: impl.KQuant, M: op, N: which}, kids: []shape{scalar, query}}
}

// plainSelect is SELECT 1 FROM r, with a cond when one is given.
func plainSelect(cond ...shape) shape {
	return sSelect(0, []shape{sInt(1)}, append(from(sSrc("r", "r")), cond...))
}

func sEq(a int64, b int64) shape {
	return sOfM(impl.KCmp, impl.EqOp, sInt(a), sInt(b))
}

func sameAst(a impl.Ast, b impl.Ast) bool {
	if len(a.Nodes) != len(b.Nodes) {
		return false
	}
	for i, x := range a.Nodes {
		y := b.Nodes[i]
		if x.K != y.K || x.N != y.N || x.M != y.M || x.S != y.S || x.T != y.T || len(x.Kids) != len(y.Kids) {
			return false
		}
		for k := range x.Kids {
			if x.Kids[k] != y.Kids[k] {
				return false
			}
		}
	}
	return true
}

func cloneAst(a impl.Ast) impl.Ast {
	out := impl.Ast{}
	for _, n := range a.Nodes {
		n.Kids = append([]int{}, n.Kids...)
		out.Nodes = append(out.Nodes, n)
	}
	return out
}

func wantCode(t *testing.T, text string, want int) {
	t.Helper()
	got, code := impl.Parse(text)
	if code != want {
		t.Errorf("%.80q (%d bytes): code %d, not %d", text, len(text), code, want)
	}
	if code != 0 && len(got.Nodes) != 0 {
		t.Errorf("%.80q: code %d and nodes %v", text, code, got.Nodes)
	}
}

func wantTree(t *testing.T, text string, want shape) {
	t.Helper()
	got, code := impl.Parse(text)
	if code != 0 || !sameAst(got, want.ast()) {
		t.Errorf("%.200q: code %d, nodes %v\nwant %v", text, code, got.Nodes, want.ast().Nodes)
	}
}

// unchanged runs something with a copy of a tree, and asks that the copy is as it was.
func unchanged(t *testing.T, what string, a impl.Ast, run func(a impl.Ast)) {
	t.Helper()
	given := cloneAst(a)
	keep := cloneAst(a)
	run(given)
	if !reflect.DeepEqual(given, keep) {
		t.Errorf("%s has changed its argument %v to %v", what, keep, given)
	}
}

// speller writes a tree as tokens, with as many brackets as there must be and, when r is there, with more
// brackets, second names and zeros than there must be.
type speller struct {
	r *rand.Rand
}

func (s speller) chance(of int) bool {
	return s.r != nil && s.r.Intn(of) == 0
}

// strength is how tightly a cond holds together.
func strength(c shape) int {
	switch c.n.K {
	case impl.KOr:
		return 0
	case impl.KAnd:
		return 1
	}
	return 2
}

func (s speller) cond(c shape, least int) []string {
	if strength(c) < least || s.chance(8) {
		return s.brackets(s.cond(c, 0))
	}
	switch c.n.K {
	case impl.KOr:
		return s.between(c.kids, "OR", func(k shape) []string { return s.cond(k, 1) })
	case impl.KAnd:
		return s.between(c.kids, "AND", func(k shape) []string { return s.cond(k, 2) })
	case impl.KNot:
		return append([]string{"NOT"}, s.cond(c.kids[0], 2)...)
	case impl.KExists:
		return append([]string{"EXISTS"}, s.brackets(s.query(c.kids[0]))...)
	}
	out := s.scalar(c.kids[0])
	switch c.n.K {
	case impl.KIsNull:
		out = append(out, [][]string{{"IS", "NULL"}, {"IS", "NOT", "NULL"}}[c.n.M]...)
	case impl.KIn:
		out = append(out, [][]string{{"IN"}, {"NOT", "IN"}}[c.n.M]...)
		out = append(out, s.brackets(s.query(c.kids[1]))...)
	case impl.KQuant:
		out = append(out, opText(c.n.M), []string{"", "ANY", "ALL"}[c.n.N])
		out = append(out, s.brackets(s.query(c.kids[1]))...)
	case impl.KCmp:
		out = append(out, opText(c.n.M))
		out = append(out, s.scalar(c.kids[1])...)
	}
	return out
}

func opText(op int) string {
	return strings.Fields("= <> < <= > >=")[op-1]
}

func (s speller) brackets(inner []string) []string {
	return append(append([]string{"("}, inner...), ")")
}

func (s speller) between(list []shape, word string, part func(shape) []string) []string {
	var out []string
	for i, k := range list {
		if i > 0 {
			out = append(out, strings.Fields(word)...)
		}
		out = append(out, part(k)...)
	}
	return out
}

func (s speller) number(n int64) string {
	text := strconv.FormatInt(n, 10)
	sign := ""
	if n < 0 {
		sign, text = "-", text[1:]
	} else if n == 0 && s.chance(3) {
		sign = "-"
	}
	for s.chance(3) && len(text) < 18 {
		text = "0" + text
	}
	return sign + text
}

func (s speller) scalar(c shape) []string {
	switch c.n.K {
	case impl.KInt:
		return []string{s.number(c.n.N)}
	case impl.KNull:
		return []string{"NULL"}
	case impl.KCol:
		return []string{c.n.S, ".", s.number(c.n.N)}
	}
	inner := []string{"SELECT", strings.Fields("COUNT COUNT MIN MAX")[c.n.M-1], "("}
	if c.n.M == 1 {
		inner = append(inner, "*")
	} else {
		inner = append(inner, s.scalar(c.kids[0])...)
	}
	inner = append(inner, ")")
	return s.brackets(append(inner, s.tail(c.kids[c.n.N:])...))
}

func (s speller) tail(kids []shape) []string {
	var sources []shape
	for len(kids) > 0 && kids[0].n.K == impl.KSrc {
		sources, kids = append(sources, kids[0]), kids[1:]
	}
	out := append([]string{"FROM"}, s.between(sources, ",", s.source)...)
	if len(kids) > 0 {
		out = append(append(out, "WHERE"), s.cond(kids[0], 0)...)
	}
	return out
}

func (s speller) source(c shape) []string {
	if c.n.S == c.n.T && !s.chance(3) {
		return []string{c.n.S}
	}
	return []string{c.n.S, c.n.T}
}

func (s speller) query(c shape) []string {
	if c.n.K == impl.KUnion {
		return s.between(c.kids, "UNION ALL", s.query)
	}
	out := []string{"SELECT"}
	if c.n.M == 1 {
		out = append(out, "DISTINCT")
	}
	out = append(out, s.between(c.kids[:c.n.N], ",", s.scalar)...)
	return append(out, s.tail(c.kids[c.n.N:])...)
}

// printed is the text that Print has to give.
func printed(s shape) string {
	return strings.Join(speller{}.query(s), " ")
}

// joined puts tokens together with blanks by chance, and with none where two tokens stay apart without.
func joined(r *rand.Rand, tokens []string) string {
	var out strings.Builder
	blanks := []string{" ", "\n", "\t", "  ", " \n\t"}
	for i, token := range tokens {
		apart := i > 0 && !strings.Contains("(),.*", token) && !strings.Contains("(),.*", tokens[i-1])
		if apart || r.Intn(3) == 0 {
			out.WriteString(blanks[r.Intn(len(blanks))])
		}
		out.WriteString(token)
	}
	if r.Intn(3) == 0 {
		out.WriteString(blanks[r.Intn(len(blanks))])
	}
	return out.String()
}

// grower makes trees by chance.
type grower struct {
	r *rand.Rand
}

func (g grower) name() string {
	names := []string{"r", "s", "t", "select", "Null", "SELECTED", "a_1", "x0", strings.Repeat("n", impl.MaxName)}
	return names[g.r.Intn(len(names))]
}

func (g grower) scalar(high int) shape {
	switch g.r.Intn(6) {
	case 0, 1:
		return sInt([]int64{0, 1, -1, 42, 999999999999999999, -999999999999999999}[g.r.Intn(6)])
	case 2:
		return sNull()
	case 3, 4:
		return sCol(g.name(), []int64{0, 1, 2, 999999999999999999}[g.r.Intn(4)])
	}
	if high < 3 {
		return sNull()
	}
	if m := 1 + g.r.Intn(4); m > 1 {
		return sAgg(m, g.scalar(high-1), g.rest(high-1))
	}
	return sCountAll(g.rest(high - 1))
}

func (g grower) rest(high int) []shape {
	var out []shape
	for more := true; more; more = g.r.Intn(3) == 0 {
		name := g.name()
		out = append(out, sSrc(name, name))
		if g.r.Intn(2) == 0 {
			out[len(out)-1].n.T = g.name()
		}
	}
	if high >= 3 && g.r.Intn(3) > 0 {
		out = append(out, g.cond(high))
	}
	return out
}

func (g grower) query(high int) shape {
	var selects []shape
	for more := true; more; more = g.r.Intn(4) == 0 {
		var scalars []shape
		for next := true; next; next = g.r.Intn(3) == 0 {
			scalars = append(scalars, g.scalar(high-1))
		}
		selects = append(selects, sSelect(g.r.Intn(2), scalars, g.rest(high-1)))
	}
	if len(selects) == 1 {
		return selects[0]
	}
	return sOf(impl.KUnion, selects...)
}

func (g grower) cond(high int) shape {
	kind := impl.KCmp + g.r.Intn(8)
	if high < 3 {
		kind = []int{impl.KCmp, impl.KIsNull}[g.r.Intn(2)]
	}
	switch kind {
	case impl.KIsNull:
		return sOfM(kind, g.r.Intn(2), g.scalar(high-1))
	case impl.KExists:
		return sOf(kind, g.query(high-1))
	case impl.KIn:
		return sOfM(kind, g.r.Intn(2), g.scalar(high-1), g.query(high-1))
	case impl.KQuant:
		return sQuant(1+g.r.Intn(6), int64(1+g.r.Intn(2)), g.scalar(high-1), g.query(high-1))
	case impl.KNot:
		return sOf(kind, g.cond(high-1))
	case impl.KAnd, impl.KOr:
		parts := []shape{g.cond(high - 1), g.cond(high - 1)}
		for g.r.Intn(3) == 0 {
			parts = append(parts, g.cond(high-1))
		}
		return sOf(kind, parts...)
	}
	return sOfM(impl.KCmp, 1+g.r.Intn(6), g.scalar(high-1), g.scalar(high-1))
}

// spoilAst changes one thing of a tree.
func spoilAst(r *rand.Rand, a *impl.Ast) {
	n := &a.Nodes[r.Intn(len(a.Nodes))]
	switch r.Intn(5) {
	case 0:
		n.K = 1 + r.Intn(15)
	case 1:
		n.M = r.Intn(8)
	case 2:
		n.N = int64(r.Intn(4))
	case 3:
		if len(n.Kids) > 0 {
			n.Kids[r.Intn(len(n.Kids))] = r.Intn(len(a.Nodes))
		}
	case 4:
		if len(n.Kids) > 0 {
			n.Kids = n.Kids[1:]
		}
	}
}
