package tests

import (
	"math/rand"
	"reflect"
	"slices"
	"testing"

	"loop.example/s0035/impl"
)

func fUnit() impl.FNode {
	return impl.FNode{K: impl.FUnit}
}

func fScan(table int) impl.FNode {
	return impl.FNode{K: impl.FScan, T: table}
}

func fSelect(x []impl.Op, l int) impl.FNode {
	return impl.FNode{K: impl.FSelect, Ex: x, L: l}
}

func fMap(l int, xs ...[]impl.Op) impl.FNode {
	return impl.FNode{K: impl.FMap, Exs: xs, L: l}
}

func fJoin(w int, l int, r int) impl.FNode {
	return impl.FNode{K: impl.FJoin, W: w, L: l, R: r}
}

// fHeld is a node that holds the rows of one side against those of the other: FMark, FSemi or FAnti.
func fHeld(kind int, w int, x []impl.Op, l int, r int) impl.FNode {
	return impl.FNode{K: kind, W: w, Ex: x, L: l, R: r}
}

func fMark(w int, x []impl.Op, l int, r int) impl.FNode {
	return fHeld(impl.FMark, w, x, l, r)
}

func fAgg(w int, m int, x []impl.Op, l int, r int) impl.FNode {
	return impl.FNode{K: impl.FAgg, W: w, M: m, Ex: x, L: l, R: r}
}

func fDistinct(l int) impl.FNode {
	return impl.FNode{K: impl.FDistinct, L: l}
}

func fUnion(l int, r int) impl.FNode {
	return impl.FNode{K: impl.FUnion, L: l, R: r}
}

// flat is a flat plan whose root is the last node.
func flat(nodes ...impl.FNode) impl.Flat {
	return impl.Flat{Nodes: nodes, Root: len(nodes) - 1}
}

func rooted(root int, nodes ...impl.FNode) impl.Flat {
	return impl.Flat{Nodes: nodes, Root: root}
}

func cloneFlat(f impl.Flat) impl.Flat {
	out := impl.Flat{Root: f.Root}
	for _, n := range f.Nodes {
		n.Ex = append([]impl.Op(nil), n.Ex...)
		xs := n.Exs
		n.Exs = nil
		for _, x := range xs {
			n.Exs = append(n.Exs, append([]impl.Op(nil), x...))
		}
		out.Nodes = append(out.Nodes, n)
	}
	return out
}

func sameNode(a impl.FNode, b impl.FNode) bool {
	return a.K == b.K && a.T == b.T && a.M == b.M && a.W == b.W && a.L == b.L && a.R == b.R &&
		slices.Equal(a.Ex, b.Ex) && slices.EqualFunc(a.Exs, b.Exs, slices.Equal[[]impl.Op])
}

func sameFlat(a impl.Flat, b impl.Flat) bool {
	return a.Root == b.Root && slices.EqualFunc(a.Nodes, b.Nodes, sameNode)
}

// noFlat says whether a flat plan is nothing.
func noFlat(f impl.Flat) bool {
	return len(f.Nodes) == 0 && f.Root == 0
}

// flatUses names the fields that each kind uses: X stands for Exs, E for Ex.
func flatUses(kind int) string {
	return []string{"", "T", "EL", "XL", "WLR", "WELR", "WMELR", "L", "LR", "WELR", "WELR"}[kind-1]
}

// flatWant is what FlatOk has to say, by the words of the document alone.
func flatWant(f impl.Flat, db impl.Db) (int, bool) {
	if len(f.Nodes) < 1 || len(f.Nodes) > 8000 || f.Root < 0 || f.Root > len(f.Nodes)-1 || !dbWant(db) {
		return 0, false
	}
	var widths []int
	for _, n := range f.Nodes {
		width, ok := fnodeWant(n, widths, db)
		if !ok {
			return 0, false
		}
		widths = append(widths, width)
	}
	return widths[f.Root], true
}

// fnodeWant asks for one node; the widths are those of the nodes in front of it.
func fnodeWant(n impl.FNode, widths []int, db impl.Db) (int, bool) {
	if n.K < 1 || n.K > 11 {
		return 0, false
	}
	used := impl.FNode{K: n.K}
	l, r := 0, 0
	ok := true
	for _, field := range flatUses(n.K) {
		switch field {
		case 'T':
			used.T = n.T
		case 'M':
			used.M = n.M
		case 'W':
			used.W = n.W
		case 'E':
			if n.K != impl.FAgg || n.M != 1 {
				used.Ex = n.Ex
			}
		case 'X':
			used.Exs = n.Exs
		case 'L':
			used.L = n.L
			if ok = ok && n.L >= 0 && n.L < len(widths); ok {
				l = widths[n.L]
			}
		case 'R':
			used.R = n.R
			if ok = ok && n.R >= 0 && n.R < len(widths); ok {
				r = widths[n.R]
			}
		}
	}
	if !ok || !sameNode(n, used) || n.W < 0 || n.W > min(l, r) {
		return 0, false
	}
	width, ok := fwidthWant(n, l, r, db)
	return width, ok && width <= 200
}

// fwidthWant gives the width of a node whose unused fields are empty, and whether the rest of it is good.
func fwidthWant(n impl.FNode, l int, r int, db impl.Db) (int, bool) {
	switch n.K {
	case 1:
		return 0, true
	case 2:
		if n.T < 0 || n.T >= len(db.Tables) {
			return 0, false
		}
		return db.Tables[n.T].Cols, true
	case 3:
		return l, exWant(n.Ex, l)
	case 4:
		for _, x := range n.Exs {
			if !exWant(x, l) {
				return 0, false
			}
		}
		return len(n.Exs), true
	case 5:
		return l + r - n.W, true
	case 6:
		return l + 1, exWant(n.Ex, r)
	case 7:
		return l + 1, n.M == 1 || n.M >= 2 && n.M <= 4 && exWant(n.Ex, r)
	case 8:
		return l, true
	case 9:
		return l, l == r
	}
	return l, exWant(n.Ex, r)
}

// flatBags gives the rows of all nodes of a valid flat plan by the words of the table alone, and false when one has
// more than MaxWork.
func flatBags(f impl.Flat, db impl.Db) ([][][]impl.Val, bool) {
	var bags [][][]impl.Val
	for _, n := range f.Nodes {
		var l, r [][]impl.Val
		if n.K > 2 {
			l, r = bags[n.L], bags[n.R]
		}
		rows := flatBag(n, l, r, db)
		if len(rows) > impl.MaxWork {
			return nil, false
		}
		bags = append(bags, rows)
	}
	return bags, true
}

func flatBag(n impl.FNode, lefts [][]impl.Val, rights [][]impl.Val, db impl.Db) [][]impl.Val {
	switch n.K {
	case impl.FUnit:
		return [][]impl.Val{{}}
	case impl.FScan:
		return db.Tables[n.T].Rows
	case impl.FUnion:
		return append(append([][]impl.Val{}, lefts...), rights...)
	}
	var out [][]impl.Val
	for _, l := range lefts {
		var matches [][]impl.Val
		if flatUses(n.K)[0] == 'W' {
			for _, r := range rights {
				if alike(l[:n.W], r[:n.W]) {
					matches = append(matches, r)
				}
			}
		}
		for _, made := range flatRows(n, l, matches, out) {
			if out = append(out, made); len(out) > impl.MaxWork {
				return out
			}
		}
	}
	return out
}

// flatRows gives the rows that one row of the left side makes; so are those that the rows in front of it made.
func flatRows(n impl.FNode, l []impl.Val, matches [][]impl.Val, so [][]impl.Val) [][]impl.Val {
	keep := false
	levels := []int{0, 0, 0}
	vals := valuesAt(n.Ex, nil, matches)
	for _, v := range vals {
		levels[level(v)]++
	}
	switch n.K {
	case impl.FSelect:
		keep = level(valueAt(n.Ex, l)) == 2
	case impl.FMap:
		made := []impl.Val{}
		for _, x := range n.Exs {
			made = append(made, valueAt(x, l))
		}
		return [][]impl.Val{made}
	case impl.FJoin:
		var out [][]impl.Val
		for _, r := range matches {
			out = append(out, glue(l, r[n.W:]))
		}
		return out
	case impl.FMark:
		return [][]impl.Val{glue(l, row(markWant(vals)))}
	case impl.FAgg:
		return [][]impl.Val{glue(l, row(aggWant(n.M, len(matches), vals)))}
	case impl.FDistinct:
		keep = countAlike(so, l) == 0
	case impl.FSemi:
		keep = levels[2] > 0
	case impl.FAnti:
		keep = levels[1] == 0 && levels[2] == 0
	}
	if keep {
		return [][]impl.Val{l}
	}
	return nil
}

// wantFlat asks FlatOk and EvalFlat about a flat plan that is to be valid, and that they leave their arguments.
func wantFlat(t *testing.T, what string, f impl.Flat, db impl.Db) {
	t.Helper()
	keepFlat, keepDb := cloneFlat(f), cloneDb(db)
	wantWidth, valid := flatWant(f, db)
	if width, ok := impl.FlatOk(f, db); !valid || !ok || width != wantWidth {
		t.Errorf("%s: FlatOk %d %v, not %d %v: %v", what, width, ok, wantWidth, valid, f)
		return
	}
	bags, runs := flatBags(f, db)
	rows, ok := impl.EvalFlat(f, db)
	if ok != runs || !ok && len(rows) != 0 {
		t.Errorf("%s: EvalFlat says %v with %d rows: %v", what, ok, len(rows), f)
	}
	if ok && runs {
		wantBag(t, what, rows, bags[f.Root])
	}
	if !sameFlat(f, keepFlat) || !sameDb(db, keepDb) {
		t.Errorf("%s: an argument has changed", what)
	}
}

// wantNoFlat asks that none of the functions that are given a flat plan takes it.
func wantNoFlat(t *testing.T, what string, f impl.Flat, db impl.Db) {
	t.Helper()
	if _, valid := flatWant(f, db); valid {
		t.Errorf("%s: the flat plan is valid: %v", what, f)
	}
	if width, ok := impl.FlatOk(f, db); ok || width != 0 {
		t.Errorf("%s: FlatOk %d %v: %v", what, width, ok, f)
	}
	if rows, ok := impl.EvalFlat(f, db); ok || len(rows) != 0 {
		t.Errorf("%s: EvalFlat %v %v", what, rows, ok)
	}
	if out, ok := impl.Simplify(f, db); ok || !noFlat(out) {
		t.Errorf("%s: Simplify %v %v", what, out, ok)
	}
}

// agreeFlat asks that FlatOk says what it has to say, and that the others run just what it takes; it gives 1 when
// the flat plan is valid.
func agreeFlat(t *testing.T, f impl.Flat, db impl.Db) int {
	t.Helper()
	width, valid := flatWant(f, db)
	got, ok := impl.FlatOk(f, db)
	if got != width || ok != valid {
		t.Errorf("FlatOk %d %v, not %d %v: %v", got, ok, width, valid, f)
	}
	if rows, ran := impl.EvalFlat(f, db); ran && !valid || !ran && len(rows) != 0 {
		t.Errorf("a flat plan that is valid (%v) has rows %v: %v", valid, rows, f)
	}
	if out, ok := impl.Simplify(f, db); ok != valid || !ok && !noFlat(out) {
		t.Errorf("a flat plan that is valid (%v) is simplified (%v) to %v", valid, ok, out)
	}
	if valid {
		return 1
	}
	return 0
}

// kindsOfFlats is a valid flat plan for each kind, over smallDb; the root is of that kind.
func kindsOfFlats() []impl.Flat {
	both := []impl.FNode{fScan(0), fScan(1)}
	over := func(n impl.FNode) impl.Flat { return flat(append(slices.Clone(both), n)...) }
	x := is(col(0), impl.EqOp, lit(1))
	return []impl.Flat{
		flat(fScan(0), fUnit()),
		over(fScan(1)),
		over(fSelect(is(col(0), impl.LtOp, col(1)), 0)),
		over(fMap(0, col(1), lit(4))),
		over(fJoin(1, 0, 1)),
		over(fMark(1, x, 0, 1)),
		over(fAgg(1, 3, col(0), 0, 1)),
		over(fDistinct(0)),
		over(fUnion(1, 1)),
		over(fHeld(impl.FSemi, 1, x, 0, 1)),
		over(fHeld(impl.FAnti, 1, x, 0, 1)),
		over(fAgg(1, 1, nil, 0, 1)),
	}
}

// flatter makes flat plans by chance.
type flatter struct {
	planner
	// most is the greatest width that it makes.
	most int
	// grows says that many nodes have more rows than those that they use.
	grows bool
}

func chanceFlatter(r *rand.Rand) flatter {
	return flatter{planner{r: r, db: chanceDb(r)}, 7, r.Intn(2) == 0}
}

// flat makes a valid flat plan of that many nodes.
func (g flatter) flat(size int) impl.Flat {
	var nodes []impl.FNode
	var widths []int
	for len(nodes) < size {
		n := g.node(widths, nodes)
		width, ok := fnodeWant(n, widths, g.db)
		if !ok || width > g.most {
			continue
		}
		nodes, widths = append(nodes, n), append(widths, width)
	}
	return impl.Flat{Nodes: nodes, Root: g.r.Intn(size)}
}

// node makes a node that may be too wide or have two sides that do not go together.
func (g flatter) node(widths []int, nodes []impl.FNode) impl.FNode {
	here := len(widths)
	n := impl.FNode{K: 1 + g.r.Intn(11)}
	if here == 0 || g.r.Intn(6) == 0 {
		return []impl.FNode{fUnit(), fScan(g.r.Intn(len(g.db.Tables)))}[min(1, g.r.Intn(4))]
	}
	if g.grows && g.r.Intn(3) > 0 {
		n.K = []int{impl.FUnion, impl.FJoin}[g.r.Intn(2)]
	}
	l, r := g.r.Intn(here), g.r.Intn(here)
	if g.r.Intn(3) > 0 {
		// Lists in which nodes are mostly used once come from taking the last one.
		l = here - 1
	}
	if n.K == impl.FUnion && g.r.Intn(2) == 0 {
		r = l
	}
	seen := widths[l]
	for _, field := range flatUses(n.K) {
		switch field {
		case 'T':
			n.T = g.r.Intn(len(g.db.Tables))
		case 'M':
			n.M = 1 + g.r.Intn(4)
		case 'W':
			n.W = g.r.Intn(1 + min(widths[l], widths[r]))
			seen = widths[r]
		case 'E':
			if n.M != 1 {
				n.Ex = g.ex(seen, 2)
			}
		case 'X':
			n.Exs = g.exs(seen, -1)
		case 'L':
			n.L = l
		case 'R':
			n.R = r
		}
	}
	if n.K == impl.FSelect && nodes[l].K == impl.FMark && g.r.Intn(5) > 0 {
		n.Ex = col(int64(widths[l] - 1))
		if g.r.Intn(2) == 0 {
			n.Ex = append(n.Ex, op(impl.XNot, 0))
		}
	}
	return n
}

// noSharedExs asks that no two expressions of a flat plan share memory, by writing into each of them and behind it.
func noSharedExs(t *testing.T, what string, f impl.Flat) {
	t.Helper()
	var all [][]impl.Op
	for _, n := range f.Nodes {
		all = append(append(all, n.Ex), n.Exs...)
		_ = append(n.Exs, ex(op(77, 77)))
	}
	for i, x := range all {
		_ = append(x, op(-1, -1))
		for k := range x {
			x[k] = op(i, int64(k))
		}
	}
	for i, x := range all {
		for k := range x {
			if x[k] != op(i, int64(k)) {
				t.Errorf("%s: expression %d shares memory with another one", what, i)
			}
		}
	}
}

// scribble writes over all of a flat plan.
func scribble(f impl.Flat) {
	for i := range f.Nodes {
		n := &f.Nodes[i]
		for k := range n.Ex {
			n.Ex[k] = op(99, 99)
		}
		for _, x := range n.Exs {
			for k := range x {
				x[k] = op(99, 99)
			}
		}
		for k := range n.Exs {
			n.Exs[k] = ex(op(98, 98))
		}
		*n = impl.FNode{K: 99, L: 99, R: 99}
	}
}

// samePlan says whether two plans are the same.
func samePlan(a impl.Plan, b impl.Plan) bool {
	return reflect.DeepEqual(clonePlan(a), clonePlan(b))
}
