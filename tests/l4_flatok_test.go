package tests

import (
	"math"
	"math/rand"
	"slices"
	"strings"
	"testing"

	"loop.example/s0035/impl"
)

// Each kind of node of a flat plan has its own number.
func TestConstantsOfFlats(t *testing.T) {
	kinds := []int{
		impl.FUnit, impl.FScan, impl.FSelect, impl.FMap, impl.FJoin, impl.FMark, impl.FAgg, impl.FDistinct, impl.FUnion, impl.FSemi, impl.FAnti,
	}
	for i, kind := range kinds {
		if kind != i+1 {
			t.Errorf("kind %d is %d", i+1, kind)
		}
	}
	if impl.MaxFlat != 8000 {
		t.Errorf("MaxFlat is %d", impl.MaxFlat)
	}
}

// Promise 10, the widths of all kinds.
func TestFlatOkWidths(t *testing.T) {
	want := []int{0, 1, 2, 2, 2, 3, 3, 2, 1, 2, 2, 3}
	for i, f := range kindsOfFlats() {
		if width, ok := impl.FlatOk(f, smallDb()); !ok || width != want[i] {
			t.Errorf("flat plan %d: %d %v, not %d", i, width, ok, want[i])
		}
		wantFlat(t, "kind", f, smallDb())
	}
	for w, want := range []int{3, 2} {
		if width, ok := impl.FlatOk(flat(fScan(0), fScan(1), fJoin(w, 0, 1)), smallDb()); !ok || width != want {
			t.Errorf("join on %d: %d %v, not %d", w, width, ok, want)
		}
	}
	wantFlat(t, "a map to nothing", flat(fScan(0), fMap(0)), smallDb())
	wantFlat(t, "a map of a map to nothing", flat(fScan(0), fMap(0), fMap(1, lit(1), lit(2))), smallDb())
	wantFlat(t, "a unit without tables", flat(fUnit()), impl.Db{})
}

// Promise 10, fields: each field of each kind with numbers that it may not have.
func TestFlatOkFields(t *testing.T) {
	db := smallDb()
	numbers := []int{math.MinInt, -2, -1, 0, 1, 2, 3, 4, 5, 6, 10, 11, 12, 1 << 32, 1<<32 + 1, math.MaxInt}
	right := 0
	for _, plain := range kindsOfFlats() {
		for i := range plain.Nodes {
			for _, n := range numbers {
				for field := range 6 {
					f := cloneFlat(plain)
					node := &f.Nodes[i]
					*[]*int{&node.K, &node.T, &node.M, &node.W, &node.L, &node.R}[field] = n
					right += agreeFlat(t, f, db)
				}
			}
			for _, xs := range [][][]impl.Op{nil, {}, {lit(1)}, {lit(1), lit(2)}, {nil}, {{}}} {
				f := cloneFlat(plain)
				f.Nodes[i].Exs = xs
				right += agreeFlat(t, f, db)
			}
			for _, x := range [][]impl.Op{nil, {}, lit(1), append(lit(1), lit(1)...), col(0), col(1), col(2), col(3), col(-1), ex(op(9, 0)), ex(op(0, 0))} {
				f := cloneFlat(plain)
				f.Nodes[i].Ex = x
				right += agreeFlat(t, f, db)
				f = cloneFlat(plain)
				f.Nodes[i].Exs = append(f.Nodes[i].Exs, x)
				right += agreeFlat(t, f, db)
			}
		}
	}
	if right < 100 {
		t.Errorf("only %d valid flat plans", right)
	}
}

// Promise 10, kinds that are not in the table, with all fields empty and with those of a kind.
func TestFlatOkKinds(t *testing.T) {
	for _, kind := range []int{math.MinInt, -1, 0, 12, 13, 1 << 32, 1<<32 + 1, math.MaxInt} {
		wantNoFlat(t, "no such kind", flat(impl.FNode{K: kind}), smallDb())
		for _, f := range kindsOfFlats() {
			f.Nodes[f.Root].K = kind
			wantNoFlat(t, "no such kind", f, smallDb())
		}
	}
}

// Promise 10, a field that is not used must be 0 or empty: each field that each kind does not use.
func TestFlatOkUnusedFields(t *testing.T) {
	set := map[string]func(n *impl.FNode){
		"T": func(n *impl.FNode) { n.T = 1 },
		"M": func(n *impl.FNode) { n.M = 1 },
		"W": func(n *impl.FNode) { n.W = 1 },
		"E": func(n *impl.FNode) { n.Ex = lit(1) },
		"X": func(n *impl.FNode) { n.Exs = [][]impl.Op{lit(1)} },
		"L": func(n *impl.FNode) { n.L = 1 },
		"R": func(n *impl.FNode) { n.R = 1 },
	}
	for _, f := range kindsOfFlats() {
		kind := f.Nodes[f.Root].K
		for field, put := range set {
			if strings.Contains(flatUses(kind), field) && (field != "E" || f.Nodes[f.Root].M != 1) {
				continue
			}
			bad := cloneFlat(f)
			put(&bad.Nodes[f.Root])
			wantNoFlat(t, "field "+field, bad, smallDb())
			bad.Root = 0
			wantNoFlat(t, "field "+field+" where the root does not use it", bad, smallDb())
			// An empty list in a field that is not used is as good as none.
			good := cloneFlat(f)
			if field == "E" {
				good.Nodes[f.Root].Ex = []impl.Op{}
			}
			if field == "X" {
				good.Nodes[f.Root].Exs = [][]impl.Op{}
			}
			wantFlat(t, "an empty list in "+field, good, smallDb())
		}
	}
}

// Promise 10, L and R: the node's own place, a later one, one below 0.
func TestFlatOkPlaces(t *testing.T) {
	db := impl.Db{Tables: []impl.Table{tableOf("r", 1, nums(1), nums(2))}}
	x := lit(1)
	nodes := []func(l int, r int) impl.FNode{
		func(l int, r int) impl.FNode { return fSelect(x, l) },
		func(l int, r int) impl.FNode { return fMap(l, col(0)) },
		func(l int, r int) impl.FNode { return fDistinct(l) },
		func(l int, r int) impl.FNode { return fUnion(l, r) },
		func(l int, r int) impl.FNode { return fJoin(1, l, r) },
		func(l int, r int) impl.FNode { return fHeld(impl.FSemi, 1, x, l, r) },
		func(l int, r int) impl.FNode { return fHeld(impl.FAnti, 1, x, l, r) },
		func(l int, r int) impl.FNode { return fMap(l, lit(3)) },
		func(l int, r int) impl.FNode { return fMark(1, x, l, r) },
		func(l int, r int) impl.FNode { return fAgg(1, 2, x, l, r) },
		func(l int, r int) impl.FNode { return fAgg(1, 1, nil, l, r) },
	}
	for i, make := range nodes {
		list := func(l int, r int) impl.Flat {
			return rooted(0, fScan(0), fScan(0), make(l, r), fScan(0), fScan(0))
		}
		for _, place := range []int{math.MinInt, -2, -1, 0, 1, 2, 3, 4, 5, math.MaxInt} {
			good := place == 0 || place == 1
			for _, other := range []int{0, 1} {
				got := agreeFlat(t, list(place, other), db) == 1
				if got != good {
					t.Errorf("node %d: L %d is valid: %v", i, place, got)
				}
				if i > 2 && i != 7 {
					if got := agreeFlat(t, list(other, place), db) == 1; got != good {
						t.Errorf("node %d: R %d is valid: %v", i, place, got)
					}
				}
			}
		}
		wantNoFlat(t, "the first node uses itself", flat(make(0, 0)), db)
	}
}

// Promise 10, Root: the first and the last place, and outside on either side.
func TestFlatOkRoot(t *testing.T) {
	db := smallDb()
	nodes := []impl.FNode{fUnit(), fScan(0), fScan(1), fJoin(1, 1, 2), fMap(3)}
	for root, want := range []int{0, 2, 1, 2, 0} {
		if width, ok := impl.FlatOk(rooted(root, nodes...), db); !ok || width != want {
			t.Errorf("root %d: %d %v", root, width, ok)
		}
		wantFlat(t, "root", rooted(root, nodes...), db)
	}
	for _, root := range []int{math.MinInt, -2, -1, 5, 6, 1 << 32, math.MaxInt} {
		wantNoFlat(t, "root outside", rooted(root, nodes...), db)
	}
	for _, root := range []int{-1, 0, 1} {
		wantNoFlat(t, "no nodes", rooted(root), db)
	}
}

// Promise 10, the number of nodes.
func TestFlatOkNodes(t *testing.T) {
	db := smallDb()
	chain := func(size int, next func(l int) impl.FNode) impl.Flat {
		f := flat(fScan(1))
		for i := range size - 1 {
			f.Nodes = append(f.Nodes, next(i))
		}
		f.Root = size - 1
		return f
	}
	steps := map[string]func(l int) impl.FNode{
		"select":   func(l int) impl.FNode { return fSelect(lit(1), l) },
		"distinct": fDistinct,
		"anti":     func(l int) impl.FNode { return fHeld(impl.FAnti, 1, lit(0), l, l) },
		"leaves":   func(l int) impl.FNode { return fScan(1) },
		"a star":   func(l int) impl.FNode { return fSelect(lit(1), 0) },
	}
	for what, next := range steps {
		for _, size := range []int{impl.MaxFlat - 1, impl.MaxFlat} {
			for _, root := range []int{0, size - 1} {
				f := chain(size, next)
				f.Root = root
				if width, ok := impl.FlatOk(f, db); !ok || width != 1 {
					t.Errorf("%s of %d nodes: %d %v", what, size, width, ok)
				}
				if rows, ok := impl.EvalFlat(f, db); !ok || len(rows) != 5 && what != "distinct" {
					t.Errorf("%s of %d nodes: %v %v", what, size, rows, ok)
				}
				if out, ok := impl.Simplify(f, db); !ok || !sameFlat(out, f) {
					t.Errorf("%s of %d nodes is not simplified to itself", what, size)
				}
			}
		}
		f := chain(impl.MaxFlat+1, next)
		wantNoFlat(t, what, f, db)
		f.Root = 0
		wantNoFlat(t, what, f, db)
	}
}

// ones are that many expressions.
func ones(many int) [][]impl.Op {
	var out [][]impl.Op
	for range many {
		out = append(out, lit(1))
	}
	return out
}

// Promise 10, a width of exactly MaxWidth and of one more, at nodes that the root uses and at others.
func TestFlatOkMaxWidth(t *testing.T) {
	db := smallDb()
	const most = impl.MaxWidth
	wantBoth := func(what string, good bool, nodes ...impl.FNode) {
		t.Helper()
		for _, root := range []int{0, len(nodes) - 1} {
			f := rooted(root, nodes...)
			if good {
				wantFlat(t, what, f, db)
			} else {
				wantNoFlat(t, what, f, db)
			}
		}
	}
	wantBoth("map", true, fUnit(), fMap(0, ones(most)...))
	wantBoth("map", false, fUnit(), fMap(0, ones(most+1)...))
	wantBoth("map", false, fUnit(), fMap(0, ones(most+1)...), fMap(1))
	for _, w := range []int{0, 1, 50, 99} {
		left, right := fMap(0, ones(100)...), fMap(0, ones(100+w)...)
		wantBoth("join", true, fUnit(), left, right, fJoin(w, 1, 2))
		wantBoth("join", true, fUnit(), left, right, fJoin(w, 2, 1))
		wantBoth("join", true, fUnit(), left, right, fJoin(w+1, 1, 2))
		right = fMap(0, ones(101+w)...)
		wantBoth("join", false, fUnit(), left, right, fJoin(w, 1, 2))
		wantBoth("join", false, fUnit(), left, right, fJoin(w, 2, 1))
		wantBoth("join", false, fUnit(), left, right, fJoin(w, 2, 1), fMap(3))
	}
	wantBoth("join on all of it", true, fUnit(), fMap(0, ones(most)...), fJoin(most, 1, 1))
	wantBoth("join on all but one", false, fUnit(), fMap(0, ones(most)...), fJoin(most-1, 1, 1))
	for _, size := range []int{most - 1, most} {
		good := size < most
		row := fMap(0, ones(size)...)
		wantBoth("mark", good, fUnit(), row, fMark(0, lit(1), 1, 0))
		wantBoth("count", good, fUnit(), row, fAgg(0, 1, nil, 1, 0))
		wantBoth("least", good, fUnit(), row, fAgg(0, 3, lit(1), 1, 0))
		wantBoth("a mark that is not used", good, fUnit(), row, fMark(0, lit(1), 1, 0), fUnit())
		wantBoth("semi", true, fUnit(), row, fHeld(impl.FSemi, 0, lit(1), 1, 0))
		wantBoth("anti", true, fUnit(), row, fHeld(impl.FAnti, 0, lit(0), 1, 0))
		wantBoth("select", true, fUnit(), row, fSelect(lit(1), 1))
		wantBoth("distinct", true, fUnit(), row, fDistinct(1))
		wantBoth("union", true, fUnit(), row, fUnion(1, 1))
		// The width of the right side does not count for what only looks at it.
		wantBoth("mark of a wide right side", true, fUnit(), row, fMark(0, col(int64(size-1)), 0, 1))
		wantBoth("least of a wide right side", true, fUnit(), row, fAgg(0, 3, col(int64(size-1)), 0, 1))
	}
}

// Promise 10, W: 0, the smaller of the two widths, one more, and below 0.
func TestFlatOkMatch(t *testing.T) {
	db := impl.Db{Tables: []impl.Table{tableOf("a", 3, nums(1, 2, 3)), tableOf("b", 2, nums(1, 2), nums(1, 3)), tableOf("c", 1)}}
	makers := []func(w int, l int, r int) impl.FNode{
		fJoin,
		func(w int, l int, r int) impl.FNode { return fMark(w, lit(1), l, r) },
		func(w int, l int, r int) impl.FNode { return fAgg(w, 1, nil, l, r) },
		func(w int, l int, r int) impl.FNode { return fAgg(w, 4, lit(1), l, r) },
		func(w int, l int, r int) impl.FNode { return fHeld(impl.FSemi, w, lit(1), l, r) },
		func(w int, l int, r int) impl.FNode { return fHeld(impl.FAnti, w, lit(1), l, r) },
	}
	widths := []int{3, 2, 1, 0}
	for _, make := range makers {
		for l, wl := range widths {
			for r, wr := range widths {
				for _, w := range []int{math.MinInt, -1, 0, 1, 2, 3, 4, 1 << 32, math.MaxInt} {
					nodes := []impl.FNode{fScan(0), fScan(1), fScan(2), fUnit(), make(w, l, r)}
					if w >= 0 && w <= min(wl, wr) {
						wantFlat(t, "a good W", flat(nodes...), db)
					} else {
						wantNoFlat(t, "a W outside", flat(nodes...), db)
						wantNoFlat(t, "a W outside that the root does not use", rooted(1, nodes...), db)
					}
				}
			}
		}
	}
}

// Promise 10, which columns each expression sees: those of L or those of R, and no others.
func TestFlatOkColumns(t *testing.T) {
	db := smallDb()
	two, one := 0, 1
	cases := map[string]struct {
		width int64
		node  func(x []impl.Op) impl.FNode
	}{
		"select of two":  {2, func(x []impl.Op) impl.FNode { return fSelect(x, two) }},
		"select of one":  {1, func(x []impl.Op) impl.FNode { return fSelect(x, one) }},
		"map of two":     {2, func(x []impl.Op) impl.FNode { return fMap(two, lit(1), x) }},
		"map of one":     {1, func(x []impl.Op) impl.FNode { return fMap(one, x, lit(1)) }},
		"mark right one": {1, func(x []impl.Op) impl.FNode { return fMark(1, x, two, one) }},
		"mark right two": {2, func(x []impl.Op) impl.FNode { return fMark(1, x, one, two) }},
		"agg right one":  {1, func(x []impl.Op) impl.FNode { return fAgg(0, 2, x, two, one) }},
		"agg right two":  {2, func(x []impl.Op) impl.FNode { return fAgg(0, 4, x, one, two) }},
		"semi right one": {1, func(x []impl.Op) impl.FNode { return fHeld(impl.FSemi, 1, x, two, one) }},
		"semi right two": {2, func(x []impl.Op) impl.FNode { return fHeld(impl.FSemi, 1, x, one, two) }},
		"anti right one": {1, func(x []impl.Op) impl.FNode { return fHeld(impl.FAnti, 1, x, two, one) }},
		"anti right two": {2, func(x []impl.Op) impl.FNode { return fHeld(impl.FAnti, 1, x, one, two) }},
	}
	for what, c := range cases {
		over := func(x []impl.Op) impl.Flat { return flat(fScan(0), fScan(1), c.node(x), fUnit()) }
		wantFlat(t, what, over(col(c.width-1)), db)
		wantFlat(t, what, over(col(0)), db)
		for _, n := range []int64{c.width, c.width + 1, -1, math.MaxInt64, math.MinInt64} {
			wantNoFlat(t, what, over(col(n)), db)
		}
		wantNoFlat(t, what, over(nil), db)
		wantNoFlat(t, what, over(ex(op(impl.XInt, 1), op(impl.XInt, 1))), db)
		wantNoFlat(t, what, over(ex(op(impl.XAnd, 0))), db)
		wantNoFlat(t, what, over(ex(op(impl.XNull, 1))), db)
		wantNoFlat(t, what, over(ex(op(9, 0))), db)
		wantFlat(t, what, over(longEx(impl.MaxEx)), db)
		wantNoFlat(t, what, over(longEx(impl.MaxEx+1)), db)
	}
}

// Promise 10, tables, aggregates and unions.
func TestFlatOkTables(t *testing.T) {
	db := smallDb()
	for _, table := range []int{math.MinInt, -1, 3, 4, 1 << 32, math.MaxInt} {
		wantNoFlat(t, "no such table", flat(fScan(table)), db)
		wantNoFlat(t, "no such table aside", rooted(0, fUnit(), fScan(table)), db)
	}
	wantNoFlat(t, "no table at all", flat(fScan(0)), impl.Db{})
	for _, m := range []int{math.MinInt, -1, 0, 5, 6, math.MaxInt} {
		wantNoFlat(t, "no such aggregate", flat(fScan(0), fAgg(0, m, lit(1), 0, 0)), db)
		wantNoFlat(t, "no such aggregate", flat(fScan(0), fAgg(0, m, nil, 0, 0)), db)
	}
	wantNoFlat(t, "an expression to count rows", flat(fScan(0), fAgg(0, 1, lit(1), 0, 0)), db)
	for m := 2; m <= 4; m++ {
		wantFlat(t, "aggregate", flat(fScan(0), fAgg(0, m, lit(1), 0, 0)), db)
		wantNoFlat(t, "no expression", flat(fScan(0), fAgg(0, m, nil, 0, 0)), db)
	}
	leaves := []impl.FNode{fScan(0), fScan(1), fUnit(), fScan(2), fMap(1, lit(1), lit(2))}
	widths := []int{2, 1, 0, 1, 2}
	for l := range leaves {
		for r := range leaves {
			f := flat(append(slices.Clone(leaves), fUnion(l, r))...)
			if widths[l] == widths[r] {
				wantFlat(t, "a union of two of the same width", f, db)
				continue
			}
			wantNoFlat(t, "a union of two widths", f, db)
			f.Root = 0
			wantNoFlat(t, "a union of two widths that the root does not use", f, db)
		}
	}
}

// Promise 10, a Db that is not valid under a flat plan that is.
func TestFlatOkWrongDb(t *testing.T) {
	for what, spoil := range wrongDbs() {
		for _, f := range append(kindsOfFlats(), flat(fUnit())) {
			db := smallDb()
			spoil(&db)
			wantNoFlat(t, what, f, db)
		}
	}
}

// Promise 10 at flat plans made by chance, and at the same ones with one thing changed.
func TestFlatOkByChance(t *testing.T) {
	r := rand.New(rand.NewSource(41))
	valid, wrong := 0, 0
	for range 6000 {
		g := chanceFlatter(r)
		f := g.flat(1 + r.Intn(10))
		if agreeFlat(t, f, g.db) != 1 {
			t.Fatalf("a flat plan that should be valid: %v", f)
		}
		for range 3 {
			bad := cloneFlat(f)
			spoilFlat(r, &bad)
			valid += agreeFlat(t, bad, g.db)
			wrong++
		}
	}
	if wrong -= valid; valid < 1000 || wrong < 1000 {
		t.Errorf("%d valid, %d wrong", valid, wrong)
	}
}

// spoilFlat changes one thing of a flat plan, by chance.
func spoilFlat(r *rand.Rand, f *impl.Flat) {
	i := r.Intn(len(f.Nodes))
	n := &f.Nodes[i]
	small := r.Intn(5) - 1
	switch r.Intn(11) {
	case 0:
		n.K = r.Intn(13)
	case 1:
		n.T = small
	case 2:
		n.M = small
	case 3:
		n.L = r.Intn(len(f.Nodes)+2) - 1
	case 4:
		n.R = r.Intn(len(f.Nodes)+2) - 1
	case 5:
		if len(n.Ex) > 0 {
			n.Ex[r.Intn(len(n.Ex))].N = int64(small)
		}
	case 6:
		if len(n.Exs) > 0 {
			x := n.Exs[r.Intn(len(n.Exs))]
			x[r.Intn(len(x))].N = int64(small)
		}
	case 7:
		j := r.Intn(len(f.Nodes))
		f.Nodes[i], f.Nodes[j] = f.Nodes[j], f.Nodes[i]
	case 8:
		n.W = small
	case 9:
		f.Root = r.Intn(len(f.Nodes)+2) - 1
	case 10:
		if len(n.Ex) > 0 {
			n.Ex = n.Ex[:len(n.Ex)-1]
		} else {
			f.Nodes = append(f.Nodes[:i], f.Nodes[i+1:]...)
		}
	}
}
