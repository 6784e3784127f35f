package tests

import (
	"math"
	"testing"

	"loop.example/s0035/impl"
)

// Promise 2, answers of RowCmp that the document's words give, in both directions.
func TestRowOrder(t *testing.T) {
	cases := []struct {
		a, b []impl.Val
		want int
	}{
		{nil, nil, 0},
		{nil, row(), 0},
		{nil, row(null()), -1},
		{row(null()), row(oddNull(9)), 0},
		{row(oddNull(9)), row(num(math.MinInt64)), -1},
		{row(null(), num(1)), row(oddNull(-4), num(1)), 0},
		{row(null(), num(1)), row(oddNull(-4), null()), 1},
		{nums(1, 2), nums(1, 2), 0},
		{nums(1, 2), nums(1, 3), -1},
		{nums(1, 9), nums(2, 0), -1},
		{nums(2), nums(1, 9, 9), 1},
		{nums(1, 2), nums(1, 2, 3), -1},
		{nums(1), row(num(1), null()), -1},
		{nums(-3), nums(-4), 1},
		{nums(math.MinInt64), nums(math.MaxInt64), -1},
		{nums(10), nums(9), 1},
	}
	for _, c := range cases {
		if got := impl.RowCmp(c.a, c.b); got != c.want {
			t.Errorf("RowCmp(%v, %v) = %d, not %d", c.a, c.b, got, c.want)
		}
		if got := impl.RowCmp(c.b, c.a); got != -c.want {
			t.Errorf("RowCmp(%v, %v) = %d, not %d", c.b, c.a, got, -c.want)
		}
	}
}

// smallRows are all rows of up to three elements out of a few, so of different lengths too.
func smallRows() [][]impl.Val {
	some := row(null(), oddNull(5), num(-1), num(0), num(2))
	out := [][]impl.Val{{}}
	from := 0
	for range 3 {
		to := len(out)
		for _, r := range out[from:to] {
			for _, v := range some {
				out = append(out, append(append([]impl.Val{}, r...), v))
			}
		}
		from = to
	}
	return out
}

// Promise 2: RowCmp is a total order.
func TestRowOrderIsTotal(t *testing.T) {
	rows := smallRows()
	for _, a := range rows {
		for _, b := range rows {
			c := impl.RowCmp(a, b)
			if c < -1 || c > 1 || c != -impl.RowCmp(b, a) {
				t.Fatalf("RowCmp of %v and %v: %d and %d", a, b, c, impl.RowCmp(b, a))
			}
			if alike(a, b) != (c == 0) {
				t.Fatalf("RowCmp(%v, %v) = %d", a, b, c)
			}
		}
	}
	short := rows[:1+5+25]
	for _, a := range short {
		for _, b := range short {
			for _, c := range short {
				if impl.RowCmp(a, b) <= 0 && impl.RowCmp(b, c) <= 0 && impl.RowCmp(a, c) > 0 {
					t.Fatalf("%v, %v, %v do not stand in a line", a, b, c)
				}
			}
		}
	}
}

// alike compares rows as bags have to: NULL is like NULL, whatever its N.
func alike(a []impl.Val, b []impl.Val) bool {
	if len(a) != len(b) {
		return false
	}
	for i := range a {
		if a[i].Null != b[i].Null || !a[i].Null && a[i].N != b[i].N {
			return false
		}
	}
	return true
}

func countAlike(rows [][]impl.Val, r []impl.Val) int {
	n := 0
	for _, x := range rows {
		if alike(x, r) {
			n++
		}
	}
	return n
}

// Promise 2, SortRows at rows of different lengths, rows alike, and NULLs with an N.
func TestSortedRows(t *testing.T) {
	given := [][]impl.Val{
		nums(2, 1), row(num(1), oddNull(8)), nums(), nums(1, 3), row(oddNull(4)), nums(2),
		row(num(2), null()), nums(1, 3), nil, row(null()), nums(-1, 7), row(oddNull(1), num(0)),
	}
	want := [][]impl.Val{
		{}, {}, row(null()), row(null()), row(null(), num(0)), nums(-1, 7), row(num(1), null()),
		nums(1, 3), nums(1, 3), nums(2), row(num(2), null()), nums(2, 1),
	}
	wantRows(t, "mixed rows", impl.SortRows(given), want)
	wantRows(t, "no rows", impl.SortRows(nil), nil)
	wantRows(t, "no rows", impl.SortRows([][]impl.Val{}), nil)
	wantRows(t, "one row", impl.SortRows([][]impl.Val{row(oddNull(3))}), [][]impl.Val{row(null())})
	wantRows(t, "empty rows", impl.SortRows([][]impl.Val{nil, {}}), [][]impl.Val{{}, {}})
}

// Promise 2: the same bag, in increasing order, for lists of many lengths in many orders.
func TestSortedRowsAreTheSameBag(t *testing.T) {
	pool := smallRows()
	for size := 0; size <= 70; size++ {
		for step := 1; step <= 12; step++ {
			given := [][]impl.Val{}
			for i := range size {
				given = append(given, pool[(i*i*step+i*7+size)%len(pool)])
			}
			got := impl.SortRows(given)
			if len(got) != len(given) {
				t.Fatalf("%d rows became %d", len(given), len(got))
			}
			for i, r := range got {
				if i > 0 && impl.RowCmp(got[i-1], r) > 0 {
					t.Fatalf("%v stands in front of %v", got[i-1], r)
				}
				if countAlike(given, r) != countAlike(got, r) {
					t.Fatalf("%v stands %d times, not %d", r, countAlike(got, r), countAlike(given, r))
				}
				for _, v := range r {
					if v.Null && v.N != 0 {
						t.Fatalf("a NULL with N in %v", r)
					}
				}
			}
		}
	}
}

// Promise 2 and the general words: SortRows writes nothing into its argument, not even behind
// the end of a list.
func TestSortRowsLeavesItsArgument(t *testing.T) {
	whole := [][]impl.Val{nums(3, 1), row(oddNull(6), num(2)), nums(2), nums(9), nums(0)}
	wide := []impl.Val{num(1), oddNull(4), num(77)}
	whole[3] = wide[:2]
	before := cloneRows(whole)
	impl.SortRows(whole[:4])
	wantRows(t, "the argument", whole, before)
	if wide[2] != num(77) {
		t.Errorf("written behind a row: %v", wide)
	}
}

// Promise 2 and the general words: the rows are new memory, also when one row was given twice.
func TestSortRowsSharesNothing(t *testing.T) {
	twice := nums(5, 6)
	given := [][]impl.Val{twice, nums(1), twice, nums(0, 0)}
	before := cloneRows(given)
	got := impl.SortRows(given)
	want := [][]impl.Val{nums(0, 0), nums(1), nums(5, 6), nums(5, 6)}
	for i := range got {
		for c := range got[i] {
			got[i][c] = num(-100)
			want[i][c] = num(-100)
			wantRows(t, "the argument", given, before)
			wantRows(t, "the other rows", got, want)
		}
		_ = append(got[i], num(-200))
		wantRows(t, "the rows behind", got, want)
	}
	got = impl.SortRows(given)
	for i := range given {
		for c := range given[i] {
			given[i][c] = num(-300)
		}
		given[i] = nil
	}
	wantRows(t, "the answer", got, [][]impl.Val{nums(0, 0), nums(1), nums(5, 6), nums(5, 6)})
	one := [][]impl.Val{nums(7)}
	impl.SortRows(one)[0] = nil
	wantRows(t, "one row", one, [][]impl.Val{nums(7)})
}
