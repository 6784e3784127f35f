package tests

import (
	"math"
	"testing"

	"loop.example/s0035/impl"
)

func num(n int64) impl.Val {
	return impl.Val{N: n}
}

func null() impl.Val {
	return impl.Val{Null: true}
}

// oddNull is a NULL with an N that is not 0, as an argument may hold it.
func oddNull(n int64) impl.Val {
	return impl.Val{Null: true, N: n}
}

func row(vals ...impl.Val) []impl.Val {
	return vals
}

// nums is a row of numbers.
func nums(ns ...int64) []impl.Val {
	out := []impl.Val{}
	for _, n := range ns {
		out = append(out, num(n))
	}
	return out
}

// someVals are NULLs of several spellings and numbers at the ends of their range.
func someVals() []impl.Val {
	return []impl.Val{
		null(), oddNull(1), oddNull(0), oddNull(-7), oddNull(math.MaxInt64), oddNull(math.MinInt64),
		num(0), num(1), num(-1), num(2), num(-2), num(5), num(1 << 32), num(math.MaxInt64), num(math.MinInt64),
	}
}

// level is a truth value as a height: 0 false, 1 unknown, 2 true. AND is then the lower one
// of two and OR the higher one, which needs none of the tables of the program.
func level(v impl.Val) int {
	if v.Null {
		return 1
	}
	if v.N == 0 {
		return 0
	}
	return 2
}

func ofLevel(n int) impl.Val {
	return []impl.Val{num(0), null(), num(1)}[n]
}

// cmpWant is what the comparison has to be.
func cmpWant(op int, a impl.Val, b impl.Val) impl.Val {
	if a.Null || b.Null {
		return null()
	}
	yes := false
	switch op {
	case 1:
		yes = a.N == b.N
	case 2:
		yes = a.N != b.N
	case 3:
		yes = a.N < b.N
	case 4:
		yes = a.N <= b.N
	case 5:
		yes = a.N > b.N
	case 6:
		yes = a.N >= b.N
	default:
		return null()
	}
	if yes {
		return num(1)
	}
	return num(0)
}

func sameRow(a []impl.Val, b []impl.Val) bool {
	if len(a) != len(b) {
		return false
	}
	for i := range a {
		if a[i] != b[i] {
			return false
		}
	}
	return true
}

func wantRows(t *testing.T, what string, got [][]impl.Val, want [][]impl.Val) {
	t.Helper()
	if len(got) != len(want) {
		t.Errorf("%s: %d rows, not %d: %v", what, len(got), len(want), got)
		return
	}
	for i := range got {
		if !sameRow(got[i], want[i]) {
			t.Errorf("%s: row %d is %v, not %v", what, i, got[i], want[i])
		}
	}
}

func cloneRows(rows [][]impl.Val) [][]impl.Val {
	out := make([][]impl.Val, len(rows))
	for i := range rows {
		out[i] = append([]impl.Val{}, rows[i]...)
	}
	return out
}

func op(k int, n int64) impl.Op {
	return impl.Op{K: k, N: n}
}

func ex(ops ...impl.Op) []impl.Op {
	return ops
}
