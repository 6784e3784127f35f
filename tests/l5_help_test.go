package tests

import (
	"math/rand"
	"strconv"
	"strings"
	"testing"

	"loop.example/s0035/impl"
)

// shapeAt raises the tree whose root stands at a place of a valid list.
func shapeAt(a impl.Ast, place int) shape {
	out := shape{n: a.Nodes[place]}
	for _, kid := range a.Nodes[place].Kids {
		out.kids = append(out.kids, shapeAt(a, kid))
	}
	out.n.Kids = nil
	return out
}

// shapeOf is the tree of a text that is a query.
func shapeOf(t *testing.T, text string) shape {
	t.Helper()
	a, code := impl.Parse(text)
	if code != 0 {
		t.Fatalf("%.200q: Parse says %d", text, code)
	}
	return shapeAt(a, len(a.Nodes)-1)
}

// each goes through all nodes of a tree; the blocks are those around the node, the innermost one last.
func each(s shape, blocks []shape, look func(s shape, blocks []shape)) {
	look(s, blocks)
	if s.n.K == impl.KSelect || s.n.K == impl.KAgg {
		blocks = append(append([]shape{}, blocks...), s)
	}
	for _, kid := range s.kids {
		each(kid, blocks, look)
	}
}

// sourcesIn are the sources of a block.
func sourcesIn(block shape) []shape {
	var out []shape
	for _, kid := range block.kids {
		if kid.n.K == impl.KSrc {
			out = append(out, kid)
		}
	}
	return out
}

// condIn is the cond of a block, if it has one.
func condIn(block shape) (shape, bool) {
	last := block.kids[len(block.kids)-1]
	return last, last.n.K >= impl.KCmp
}

// tableAt is the place of the table with a name, -1 when there is none.
func tableAt(db impl.Db, name string) int {
	for i, table := range db.Tables {
		if table.Name == name {
			return i
		}
	}
	return -1
}

// columnsOf is the number of columns of a query.
func columnsOf(query shape) int64 {
	if query.n.K == impl.KUnion {
		return query.kids[0].n.N
	}
	return query.n.N
}

// faultsIn are the codes from 11 to 16 that apply to a tree, each asked for alone. Where a name stands for nothing,
// its number of columns is not asked for.
func faultsIn(s shape, db impl.Db) map[int]bool {
	found := map[int]bool{}
	each(s, nil, func(s shape, blocks []shape) {
		switch s.n.K {
		case impl.KSrc:
			found[11] = found[11] || tableAt(db, s.n.S) < 0
		case impl.KSelect, impl.KAgg:
			sources := sourcesIn(s)
			for i := range sources {
				for k := range sources {
					found[12] = found[12] || i != k && sources[i].n.T == sources[k].n.T
				}
			}
		case impl.KCol:
			source, ok := standsFor(s.n.S, blocks)
			found[13] = found[13] || !ok
			if table := tableAt(db, source.n.S); table >= 0 {
				found[14] = found[14] || s.n.N <= 0 || s.n.N > int64(db.Tables[table].Cols)
			}
		case impl.KIn, impl.KQuant:
			found[15] = found[15] || columnsOf(s.kids[1]) != 1
		case impl.KUnion:
			for _, kid := range s.kids {
				found[16] = found[16] || kid.n.N != s.kids[0].n.N
			}
		}
	})
	return found
}

// standsFor gives the source that a name stands for: that of the innermost block that has one.
func standsFor(name string, blocks []shape) (shape, bool) {
	for i := len(blocks) - 1; i >= 0; i-- {
		for _, source := range sourcesIn(blocks[i]) {
			if source.n.T == name {
				return source, true
			}
		}
	}
	return shape{}, false
}

// translateWant is what Translate has to give, by the words of the document alone; the operators are those of the
// plan when the code is 0.
func translateWant(a impl.Ast, db impl.Db) (oper, int) {
	if !okWant(a) || !dbWant(db) {
		return oper{}, 10
	}
	s := shapeAt(a, len(a.Nodes)-1)
	faults := faultsIn(s, db)
	for code := 11; code <= 16; code++ {
		if faults[code] {
			return oper{}, code
		}
	}
	o := drafter{db}.query(s, 0, nil)
	if _, ok := planWant(o.plan(), db); !ok {
		return oper{}, 17
	}
	if workWant(o, db) > 2000 {
		return oper{}, 18
	}
	return o, 0
}

// drafter makes the operators of a query, block by block, as trees that are laid down later.
type drafter struct {
	db impl.Db
}

// draft is a block that is being translated: its current plan, the width of that, the size of the environment, and
// the places of the first columns of all names that are known in it.
type draft struct {
	plan  oper
	width int
	e     int
	names map[string]int
}

// query makes a query in an environment of e elements; names are those known outside.
func (d drafter) query(s shape, e int, names map[string]int) oper {
	if s.n.K == impl.KUnion {
		out := d.query(s.kids[0], e, names)
		for _, kid := range s.kids[1:] {
			out = pTwo(impl.PUnion, out, d.query(kid, e, names))
		}
		return out
	}
	b := d.block(s, e, names)
	var xs [][]impl.Op
	for _, scalar := range s.kids[:s.n.N] {
		xs = append(xs, d.ex(b, scalar))
	}
	out := pMap(b.plan, xs...)
	if s.n.M == 1 {
		out = pDistinct(out)
	}
	return out
}

func (d drafter) block(s shape, e int, outer map[string]int) *draft {
	b := &draft{e: e, names: map[string]int{}}
	for name, place := range outer {
		b.names[name] = place
	}
	for i, source := range sourcesIn(s) {
		table := tableAt(d.db, source.n.S)
		if i == 0 {
			b.plan = pScan(table)
		} else {
			b.plan = pTwo(impl.PCross, b.plan, pScan(table))
		}
		b.names[source.n.T] = e + b.width
		b.width += d.db.Tables[table].Cols
	}
	cond, ok := condIn(s)
	if !ok {
		return b
	}
	conds := []shape{cond}
	if cond.n.K == impl.KAnd {
		conds = cond.kids
	}
	for _, c := range conds {
		x := d.ex(b, c)
		b.plan = pSelect(x, b.plan)
	}
	return b
}

// ex makes the expression of a node while b is the current block.
func (d drafter) ex(b *draft, s shape) []impl.Op {
	switch s.n.K {
	case impl.KInt:
		return lit(s.n.N)
	case impl.KNull:
		return ex(op(impl.XNull, 0))
	case impl.KCol:
		return col(int64(b.names[s.n.S]) + s.n.N - 1)
	case impl.KCmp:
		first := d.ex(b, s.kids[0])
		return is(first, int64(s.n.M), d.ex(b, s.kids[1]))
	case impl.KIsNull:
		return d.not(s.n.M == 1, append(d.ex(b, s.kids[0]), op(impl.XIsNull, 0)))
	case impl.KNot:
		return d.not(true, d.ex(b, s.kids[0]))
	case impl.KAnd, impl.KOr:
		link := op(map[int]int{impl.KAnd: impl.XAnd, impl.KOr: impl.XOr}[s.n.K], 0)
		x := d.ex(b, s.kids[0])
		for _, kid := range s.kids[1:] {
			x = append(append(x, d.ex(b, kid)...), link)
		}
		return x
	case impl.KAgg:
		r := d.block(s, b.e+b.width, b.names)
		var y []impl.Op
		if s.n.N == 1 {
			y = d.ex(r, s.kids[0])
		}
		b.plan = pAgg(s.n.M, y, b.plan, r.plan)
	case impl.KExists:
		b.plan = pMark(lit(1), b.plan, d.query(s.kids[0], b.e+b.width, b.names))
	case impl.KIn:
		d.mark(b, s, impl.EqOp)
	case impl.KQuant:
		opposite := []int{0, 2, 1, 6, 5, 4, 3}
		if s.n.N == 2 {
			d.mark(b, s, opposite[s.n.M])
		} else {
			d.mark(b, s, s.n.M)
		}
	}
	b.width++
	not := s.n.K == impl.KIn && s.n.M == 1 || s.n.K == impl.KQuant && s.n.N == 2
	return d.not(not, col(int64(b.e+b.width-1)))
}

func (d drafter) not(not bool, x []impl.Op) []impl.Op {
	if not {
		return append(x, op(impl.XNot, 0))
	}
	return x
}

func (d drafter) mark(b *draft, s shape, comp int) {
	x := d.ex(b, s.kids[0])
	at := b.e + b.width
	b.plan = pMark(is(x, int64(comp), col(int64(at))), b.plan, d.query(s.kids[1], at, b.names))
}

// binding is one row for each source of a block, by the names, and what is bound further out.
type binding struct {
	rows  map[string][]impl.Val
	outer *binding
}

// meaning is the bag of a query, by the tree alone.
func meaning(s shape, db impl.Db, b *binding) [][]impl.Val {
	var out [][]impl.Val
	if s.n.K == impl.KUnion {
		for _, kid := range s.kids {
			out = append(out, meaning(kid, db, b)...)
		}
		return out
	}
	for _, inner := range kept(s, db, b) {
		made := []impl.Val{}
		for _, scalar := range s.kids[:s.n.N] {
			made = append(made, valueOf(scalar, db, inner))
		}
		if s.n.M == 0 || countAlike(out, made) == 0 {
			out = append(out, made)
		}
	}
	return out
}

// kept are the combinations of a block's rows for which its cond is true.
func kept(s shape, db impl.Db, outer *binding) []*binding {
	all := []*binding{{rows: map[string][]impl.Val{}, outer: outer}}
	for _, source := range sourcesIn(s) {
		var next []*binding
		for _, b := range all {
			for _, r := range db.Tables[tableAt(db, source.n.S)].Rows {
				rows := map[string][]impl.Val{source.n.T: r}
				for name, bound := range b.rows {
					rows[name] = bound
				}
				next = append(next, &binding{rows: rows, outer: outer})
			}
		}
		all = next
	}
	cond, ok := condIn(s)
	if !ok {
		return all
	}
	var out []*binding
	for _, b := range all {
		if level(valueOf(cond, db, b)) == 2 {
			out = append(out, b)
		}
	}
	return out
}

// valueOf is the value of a scalar, or the truth value of a cond.
func valueOf(s shape, db impl.Db, b *binding) impl.Val {
	switch s.n.K {
	case impl.KInt:
		return num(s.n.N)
	case impl.KCol:
		for ; b != nil; b = b.outer {
			if r, ok := b.rows[s.n.S]; ok && r[s.n.N-1].Null {
				return null()
			} else if ok {
				return r[s.n.N-1]
			}
		}
	case impl.KAgg:
		combinations := kept(s, db, b)
		var vals []impl.Val
		for _, inner := range combinations {
			if s.n.N == 1 {
				vals = append(vals, valueOf(s.kids[0], db, inner))
			}
		}
		return aggWant(s.n.M, len(combinations), vals)
	case impl.KCmp:
		return cmpWant(s.n.M, valueOf(s.kids[0], db, b), valueOf(s.kids[1], db, b))
	case impl.KIsNull:
		if valueOf(s.kids[0], db, b).Null != (s.n.M == 1) {
			return num(1)
		}
		return num(0)
	case impl.KExists:
		return num(int64(min(1, len(meaning(s.kids[0], db, b)))))
	case impl.KIn, impl.KQuant:
		return heldAgainst(s, db, b)
	case impl.KNot:
		return ofLevel(2 - level(valueOf(s.kids[0], db, b)))
	case impl.KAnd, impl.KOr:
		low, high := 2, 0
		for _, kid := range s.kids {
			here := level(valueOf(kid, db, b))
			low, high = min(low, here), max(high, here)
		}
		return ofLevel(map[int]int{impl.KAnd: low, impl.KOr: high}[s.n.K])
	}
	return null()
}

// heldAgainst is the truth value of IN, NOT IN, ANY and ALL.
func heldAgainst(s shape, db impl.Db, b *binding) impl.Val {
	comp := s.n.M
	if s.n.K == impl.KIn {
		comp = impl.EqOp
	}
	low, high := 2, 0
	for _, r := range meaning(s.kids[1], db, b) {
		here := level(cmpWant(comp, valueOf(s.kids[0], db, b), r[0]))
		low, high = min(low, here), max(high, here)
	}
	switch {
	case s.n.K == impl.KQuant && s.n.N == 2:
		return ofLevel(low)
	case s.n.K == impl.KIn && s.n.M == 1:
		return ofLevel(2 - high)
	}
	return ofLevel(high)
}

// textWant is the text of a bag.
func textWant(rows [][]impl.Val) string {
	var lines []string
	for _, r := range impl.SortRows(rows) {
		var words []string
		for _, v := range r {
			word := "NULL"
			if !v.Null {
				word = strconv.FormatInt(v.N, 10)
			}
			words = append(words, word)
		}
		lines = append(lines, strings.Join(words, " ")+"\n")
	}
	return strings.Join(lines, "")
}

// dataOf writes a Db as a text that ReadDb reads.
func dataOf(db impl.Db) string {
	var out strings.Builder
	for _, table := range db.Tables {
		out.WriteString("table " + table.Name + " " + strconv.Itoa(table.Cols) + "\n")
		for _, r := range table.Rows {
			out.WriteString("row " + textWant([][]impl.Val{r}))
		}
	}
	return out.String()
}

// wantTranslate asks Translate for the plan or the code that the document's words give, and that its arguments stay.
// It gives the code.
func wantTranslate(t *testing.T, what string, a impl.Ast, db impl.Db) int {
	t.Helper()
	keepAst, keepDb := cloneAst(a), cloneDb(db)
	p, code := impl.Translate(a, db)
	o, want := translateWant(a, db)
	switch {
	case code != want:
		t.Errorf("%s: code %d, not %d", what, code, want)
	case code != 0 && len(p.Nodes) != 0:
		t.Errorf("%s: code %d and a plan %v", what, code, p)
	case code == 0 && !samePlan(p, o.plan()):
		t.Errorf("%s: the plan is %v\nnot %v", what, p, o.plan())
	}
	if !sameAst(a, keepAst) || !sameDb(db, keepDb) {
		t.Errorf("%s: an argument has changed", what)
	}
	if _, ok := impl.PlanOk(p, db); code == 0 && (!ok || impl.PlanWork(p, db) > impl.MaxWork) {
		t.Errorf("%s: the plan %v is no good one", what, p)
	}
	return code
}

// asker makes queries by chance over tables of a Db.
type asker struct {
	r  *rand.Rand
	db impl.Db
	// wild is in how many cases there is one fault; 0 stands for none.
	wild int
}

// slip says whether to do something wrong now.
func (g asker) slip() bool {
	return g.wild > 0 && g.r.Intn(g.wild) == 0
}

func (g asker) ast(high int) impl.Ast {
	return g.query(high, int64(1+g.r.Intn(2)), nil).ast()
}

// query makes a query of that many columns in the blocks around.
func (g asker) query(high int, columns int64, blocks []shape) shape {
	var selects []shape
	for more := true; more; more = g.r.Intn(5) == 0 {
		mine := columns
		if g.slip() {
			mine += int64(g.r.Intn(2))
		}
		rest := g.rest(high, blocks)
		inside := append(append([]shape{}, blocks...), shape{kids: rest})
		var scalars []shape
		for range mine {
			scalars = append(scalars, g.scalar(high-1, inside))
		}
		selects = append(selects, sSelect(g.r.Intn(2), scalars, rest))
	}
	if len(selects) == 1 {
		return selects[0]
	}
	return sOf(impl.KUnion, selects...)
}

// rest makes the sources and maybe the cond of a block.
func (g asker) rest(high int, blocks []shape) []shape {
	names := []string{"a", "b", "c", g.db.Tables[0].Name}
	g.r.Shuffle(len(names), func(i int, k int) { names[i], names[k] = names[k], names[i] })
	var out []shape
	for i := range 1 + g.r.Intn(5)/3 {
		table := g.db.Tables[g.r.Intn(len(g.db.Tables))].Name
		if g.slip() {
			table = "nowhere"
		}
		out = append(out, sSrc(table, names[i]))
		if i > 0 && g.slip() {
			out[i].n.T = out[0].n.T
		}
	}
	if g.r.Intn(4) == 0 {
		return out
	}
	inside := append(append([]shape{}, blocks...), shape{kids: out})
	return append(out, g.cond(high, inside))
}

func (g asker) scalar(high int, blocks []shape) shape {
	switch pick := g.r.Intn(8); {
	case pick == 0:
		return sInt(int64(g.r.Intn(4) - 1))
	case pick == 1:
		return sNull()
	case pick < 4 && high > 0:
		rest := g.rest(high-1, blocks)
		m := 1 + g.r.Intn(4)
		if m == 1 {
			return sCountAll(rest)
		}
		return sAgg(m, g.scalar(high-1, append(append([]shape{}, blocks...), shape{kids: rest})), rest)
	}
	return g.column(blocks)
}

// column takes a name of one of the blocks around, and a column of what it stands for.
func (g asker) column(blocks []shape) shape {
	sources := sourcesIn(blocks[g.r.Intn(len(blocks))])
	name := sources[g.r.Intn(len(sources))].n.T
	if g.slip() {
		name = []string{"a", "b", "c", g.db.Tables[0].Name, "nobody"}[g.r.Intn(5)]
	}
	source, ok := standsFor(name, blocks)
	table := tableAt(g.db, source.n.S)
	if !ok || table < 0 {
		return sCol(name, 1)
	}
	cols := g.db.Tables[table].Cols
	if g.slip() {
		return sCol(name, int64(cols+1)*int64(g.r.Intn(2)))
	}
	return sCol(name, int64(1+g.r.Intn(cols)))
}

func (g asker) cond(high int, blocks []shape) shape {
	kind := impl.KCmp + g.r.Intn(8)
	if high <= 0 {
		kind = []int{impl.KCmp, impl.KIsNull}[g.r.Intn(2)]
	}
	columns := int64(1)
	if kind == impl.KExists || g.slip() {
		columns = int64(1 + g.r.Intn(2))
	}
	next := func() shape { return g.cond(high-1, blocks) }
	switch kind {
	case impl.KIsNull:
		return sOfM(kind, g.r.Intn(2), g.scalar(high-1, blocks))
	case impl.KExists:
		return sOf(kind, g.query(high-1, columns, blocks))
	case impl.KIn:
		return sOfM(kind, g.r.Intn(2), g.scalar(high-1, blocks), g.query(high-1, columns, blocks))
	case impl.KQuant:
		comp, which := 1+g.r.Intn(6), int64(1+g.r.Intn(2))
		return sQuant(comp, which, g.scalar(high-1, blocks), g.query(high-1, columns, blocks))
	case impl.KNot:
		return sOf(kind, next())
	case impl.KAnd, impl.KOr:
		parts := []shape{next(), next()}
		for g.r.Intn(3) == 0 {
			parts = append(parts, next())
		}
		return sOf(kind, parts...)
	}
	return sOfM(impl.KCmp, 1+g.r.Intn(6), g.scalar(high-1, blocks), g.scalar(high-1, blocks))
}
