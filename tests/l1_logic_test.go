package tests

import (
	"math"
	"testing"

	"loop.example/s0035/impl"
)

// Promise 1, the constants that the document names.
func TestConstantsOfValues(t *testing.T) {
	got := []int{
		impl.EqOp, impl.NeOp, impl.LtOp, impl.LeOp, impl.GtOp, impl.GeOp,
		impl.XInt, impl.XNull, impl.XCol, impl.XCmp, impl.XAnd, impl.XOr, impl.XNot, impl.XIsNull, impl.MaxEx,
	}
	want := []int{1, 2, 3, 4, 5, 6, 1, 2, 3, 4, 5, 6, 7, 8, 5000}
	for i := range want {
		if got[i] != want[i] {
			t.Errorf("constant %d is %d, not %d", i, got[i], want[i])
		}
	}
}

// Promise 1, the tables of three-valued logic written out.
func TestLogicTables(t *testing.T) {
	f, u, y := num(0), null(), num(1)
	cases := []struct {
		a, b, and, or impl.Val
	}{
		{f, f, f, f}, {f, u, f, u}, {f, y, f, y},
		{u, f, f, u}, {u, u, u, u}, {u, y, u, y},
		{y, f, f, y}, {y, u, u, y}, {y, y, y, y},
	}
	for _, c := range cases {
		if got := impl.And3(c.a, c.b); got != c.and {
			t.Errorf("And3(%v, %v) = %v", c.a, c.b, got)
		}
		if got := impl.Or3(c.a, c.b); got != c.or {
			t.Errorf("Or3(%v, %v) = %v", c.a, c.b, got)
		}
	}
	if impl.Not3(f) != y || impl.Not3(u) != u || impl.Not3(y) != f {
		t.Errorf("Not3: %v %v %v", impl.Not3(f), impl.Not3(u), impl.Not3(y))
	}
}

// Promise 1 at Vals of every sort: NULLs with an N, truth of numbers other than 0 and 1.
func TestLogicAtAllVals(t *testing.T) {
	for _, a := range someVals() {
		if got, want := impl.Not3(a), ofLevel(2-level(a)); got != want {
			t.Errorf("Not3(%v) = %v, not %v", a, got, want)
		}
		for _, b := range someVals() {
			if got, want := impl.And3(a, b), ofLevel(min(level(a), level(b))); got != want {
				t.Errorf("And3(%v, %v) = %v, not %v", a, b, got, want)
			}
			if got, want := impl.Or3(a, b), ofLevel(max(level(a), level(b))); got != want {
				t.Errorf("Or3(%v, %v) = %v, not %v", a, b, got, want)
			}
		}
	}
}

// Promise 1, the comparisons, and the ops outside 1 .. 6.
func TestComparisons(t *testing.T) {
	ops := []int{1, 2, 3, 4, 5, 6, 0, 7, 8, -1, -6, 1000, math.MaxInt, math.MinInt}
	for _, o := range ops {
		for _, a := range someVals() {
			for _, b := range someVals() {
				if got, want := impl.Cmp3(o, a, b), cmpWant(o, a, b); got != want {
					t.Errorf("Cmp3(%d, %v, %v) = %v, not %v", o, a, b, got, want)
				}
			}
		}
	}
}

// Promise 1: the difference of the two ends does not fit 64 bits, so no comparison may make it.
func TestComparisonsAtTheEnds(t *testing.T) {
	low, high := num(math.MinInt64), num(math.MaxInt64)
	if impl.Cmp3(impl.LtOp, low, high) != num(1) || impl.Cmp3(impl.GtOp, low, high) != num(0) {
		t.Errorf("the least number is not below the greatest")
	}
	if impl.Cmp3(impl.EqOp, oddNull(3), oddNull(3)) != null() {
		t.Errorf("NULL is equal to NULL in Cmp3")
	}
}
