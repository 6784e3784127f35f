package tests

import (
	"math"
	"testing"

	"loop.example/s0035/impl"
)

// wantEx asks ExOk and EvalEx the same thing; a want that is not ok is NULL.
func wantEx(t *testing.T, ops []impl.Op, r []impl.Val, want impl.Val, ok bool) {
	t.Helper()
	got, valid := impl.EvalEx(ops, r)
	if got != want || valid != ok {
		t.Errorf("EvalEx(%v, %v) = %v %v, not %v %v", ops, r, got, valid, want, ok)
	}
	if impl.ExOk(ops, len(r)) != ok {
		t.Errorf("ExOk(%v, %d) = %v", ops, len(r), !ok)
	}
}

// Promise 3, values of valid expressions.
func TestExpressionValues(t *testing.T) {
	r := row(num(2), oddNull(8), num(-5))
	cases := []struct {
		ops  []impl.Op
		want impl.Val
	}{
		{ex(op(impl.XInt, 7)), num(7)},
		{ex(op(impl.XInt, math.MinInt64)), num(math.MinInt64)},
		{ex(op(impl.XNull, 0)), null()},
		{ex(op(impl.XCol, 0)), num(2)},
		{ex(op(impl.XCol, 1)), null()},
		{ex(op(impl.XCol, 2)), num(-5)},
		{ex(op(impl.XCol, 2), op(impl.XCol, 0), op(impl.XCmp, impl.LtOp)), num(1)},
		{ex(op(impl.XCol, 0), op(impl.XCol, 2), op(impl.XCmp, impl.LtOp)), num(0)},
		{ex(op(impl.XCol, 0), op(impl.XCol, 1), op(impl.XCmp, impl.EqOp)), null()},
		{ex(op(impl.XCol, 2), op(impl.XNot, 0)), num(0)},
		{ex(op(impl.XCol, 1), op(impl.XNot, 0)), null()},
		{ex(op(impl.XCol, 1), op(impl.XIsNull, 0)), num(1)},
		{ex(op(impl.XCol, 2), op(impl.XIsNull, 0)), num(0)},
		{ex(op(impl.XInt, 0), op(impl.XIsNull, 0)), num(0)},
		{ex(op(impl.XCol, 0), op(impl.XCol, 2), op(impl.XAnd, 0)), num(1)},
		{ex(op(impl.XCol, 1), op(impl.XInt, 0), op(impl.XAnd, 0)), num(0)},
		{ex(op(impl.XInt, 0), op(impl.XCol, 1), op(impl.XOr, 0)), null()},
		{ex(op(impl.XCol, 1), op(impl.XCol, 2), op(impl.XOr, 0)), num(1)},
		{ex(op(impl.XInt, 0), op(impl.XInt, 0), op(impl.XInt, 1), op(impl.XOr, 0), op(impl.XAnd, 0)), num(0)},
	}
	for _, c := range cases {
		wantEx(t, c.ops, r, c.want, true)
	}
}

// Promise 3, the places just inside and just outside the row, and widths.
func TestExpressionPlaces(t *testing.T) {
	r := nums(4, 5, 6)
	wantEx(t, ex(op(impl.XCol, 0)), r, num(4), true)
	wantEx(t, ex(op(impl.XCol, 2)), r, num(6), true)
	wantEx(t, ex(op(impl.XCol, 3)), r, null(), false)
	wantEx(t, ex(op(impl.XCol, -1)), r, null(), false)
	wantEx(t, ex(op(impl.XCol, math.MaxInt64)), r, null(), false)
	wantEx(t, ex(op(impl.XCol, math.MinInt64)), r, null(), false)
	wantEx(t, ex(op(impl.XCol, 1<<32)), r, null(), false)
	wantEx(t, ex(op(impl.XCol, 0)), nil, null(), false)
	wantEx(t, ex(op(impl.XInt, 4)), nil, num(4), true)
	if !impl.ExOk(ex(op(impl.XInt, 1)), 0) || impl.ExOk(ex(op(impl.XInt, 1)), -1) || impl.ExOk(ex(op(impl.XInt, 1)), math.MinInt) {
		t.Errorf("widths around 0")
	}
	if !impl.ExOk(ex(op(impl.XCol, math.MaxInt-1)), math.MaxInt) || impl.ExOk(ex(op(impl.XCol, math.MaxInt)), math.MaxInt) {
		t.Errorf("the greatest width")
	}
}

// Promise 3, wrong inputs: kinds, an N where it is not used, the stack.
func TestWrongExpressions(t *testing.T) {
	one := op(impl.XInt, 1)
	r := nums(1, 2)
	for _, k := range []int{0, -1, 9, 10, 1 << 32, math.MaxInt, math.MinInt} {
		wantEx(t, ex(op(k, 0)), r, null(), false)
		wantEx(t, ex(one, op(k, 0)), r, null(), false)
		wantEx(t, ex(one, one, op(k, 0)), r, null(), false)
	}
	for _, n := range []int64{1, -1, 2, 1 << 32, math.MaxInt64, math.MinInt64} {
		wantEx(t, ex(op(impl.XNull, n)), r, null(), false)
		wantEx(t, ex(one, op(impl.XNot, n)), r, null(), false)
		wantEx(t, ex(one, op(impl.XIsNull, n)), r, null(), false)
		wantEx(t, ex(one, one, op(impl.XAnd, n)), r, null(), false)
		wantEx(t, ex(one, one, op(impl.XOr, n)), r, null(), false)
	}
	for _, n := range []int64{0, -1, 7, 1<<32 + 1, math.MaxInt64, math.MinInt64} {
		wantEx(t, ex(one, one, op(impl.XCmp, n)), r, null(), false)
	}
	wantEx(t, nil, r, null(), false)
	wantEx(t, ex(), nil, null(), false)
	wantEx(t, ex(one, one), r, null(), false)
	wantEx(t, ex(one, one, one, op(impl.XAnd, 0)), r, null(), false)
	for _, two := range []impl.Op{op(impl.XCmp, 1), op(impl.XAnd, 0), op(impl.XOr, 0)} {
		wantEx(t, ex(two), r, null(), false)
		wantEx(t, ex(one, two), r, null(), false)
		// These would end with one value, were the stack not empty too early.
		wantEx(t, ex(two, one, one), r, null(), false)
		wantEx(t, ex(one, two, one), r, null(), false)
	}
	for _, first := range []impl.Op{op(impl.XNot, 0), op(impl.XIsNull, 0)} {
		wantEx(t, ex(first), r, null(), false)
		wantEx(t, ex(first, one), r, null(), false)
	}
}

// longEx is a valid expression of exactly the given length: 0, negated again and again.
func longEx(length int) []impl.Op {
	out := ex(op(impl.XInt, 0))
	for len(out) < length {
		out = append(out, op(impl.XNot, 0))
	}
	return out
}

// Promise 3, the limit of MaxEx Ops.
func TestLongExpressions(t *testing.T) {
	wantEx(t, longEx(impl.MaxEx-1), nil, num(0), true)
	wantEx(t, longEx(impl.MaxEx), nil, num(1), true)
	if v, ok := impl.EvalEx(longEx(impl.MaxEx+1), nil); ok || v != null() || impl.ExOk(longEx(impl.MaxEx+1), 0) {
		t.Errorf("one Op too many: %v %v", v, ok)
	}
	deep := []impl.Op{}
	for range impl.MaxEx / 2 {
		deep = append(deep, op(impl.XInt, 3))
	}
	for range impl.MaxEx/2 - 1 {
		deep = append(deep, op(impl.XAnd, 0))
	}
	wantEx(t, deep, nil, num(1), true)
	if impl.ExOk(append(deep, op(impl.XAnd, 0)), 0) || impl.ExOk(deep[:len(deep)-1], 0) {
		t.Errorf("a deep stack that ends with no value or with two")
	}
}

// The general words: EvalEx and ExOk write nothing into what they are given.
func TestEvalExLeavesItsArguments(t *testing.T) {
	wholeRow := row(oddNull(4), num(2), oddNull(9))
	wholeEx := ex(op(impl.XCol, 0), op(impl.XCol, 1), op(impl.XCmp, 3), op(impl.XNot, 0), op(impl.XInt, 55))
	rowBefore := append([]impl.Val{}, wholeRow...)
	exBefore := append([]impl.Op{}, wholeEx...)
	if v, ok := impl.EvalEx(wholeEx[:4], wholeRow[:2]); v != null() || !ok {
		t.Errorf("%v %v", v, ok)
	}
	impl.EvalEx(wholeEx, wholeRow)
	impl.EvalEx(wholeEx[:1], wholeRow)
	if !sameRow(wholeRow, rowBefore) {
		t.Errorf("the row became %v", wholeRow)
	}
	for i := range wholeEx {
		if wholeEx[i] != exBefore[i] {
			t.Errorf("the expression became %v", wholeEx)
		}
	}
}

// readBack reads an expression from its back, so without a stack: the value of the part that
// ends in front of end, and where that part begins.
func readBack(ops []impl.Op, end int, r []impl.Val) (impl.Val, int, bool) {
	if end == 0 {
		return null(), 0, false
	}
	last, at := ops[end-1], end-1
	args := []impl.Val{}
	for range []int{0, 0, 0, 0, 2, 2, 2, 1, 1, 0}[last.K] {
		v, begin, ok := readBack(ops, at, r)
		if !ok {
			return null(), 0, false
		}
		args, at = append(args, v), begin
	}
	switch {
	case last.K == 1:
		return num(last.N), at, true
	case last.K == 3 && last.N >= 0 && last.N < int64(len(r)):
		if r[last.N].Null {
			return null(), at, true
		}
		return r[last.N], at, true
	case last.K == 4 && last.N >= 1 && last.N <= 6:
		return cmpWant(int(last.N), args[1], args[0]), at, true
	case last.K < 9 && last.K != 3 && last.K != 4 && last.N == 0:
		return plainWant(last.K, args), at, true
	}
	return null(), 0, false
}

// plainWant is the value of an Op whose N is not used; args has what it takes, b first.
func plainWant(k int, args []impl.Val) impl.Val {
	switch k {
	case 5:
		return ofLevel(min(level(args[0]), level(args[1])))
	case 6:
		return ofLevel(max(level(args[0]), level(args[1])))
	case 7:
		return ofLevel(2 - level(args[0]))
	case 8:
		if args[0].Null {
			return num(1)
		}
		return num(0)
	}
	return null()
}

// Promise 3 at every list of up to four Ops out of a score, right and wrong ones.
func TestAllShortExpressions(t *testing.T) {
	r := row(num(3), oddNull(2))
	some := ex(
		op(1, 0), op(1, -4), op(2, 0), op(3, 0), op(3, 1), op(4, 1), op(4, 3), op(4, 6), op(5, 0), op(6, 0),
		op(7, 0), op(8, 0), op(2, 1), op(3, 2), op(3, -1), op(4, 0), op(4, 7), op(5, 2), op(7, 1), op(9, 0),
	)
	lists := [][]impl.Op{{}}
	from := 0
	for range 4 {
		to := len(lists)
		for _, l := range lists[from:to] {
			for _, o := range some {
				lists = append(lists, append(append([]impl.Op{}, l...), o))
			}
		}
		from = to
	}
	for _, l := range lists {
		want, begin, ok := readBack(l, len(l), r)
		if !ok || begin != 0 {
			want, ok = null(), false
		}
		got, valid := impl.EvalEx(l, r)
		if got != want || valid != ok || impl.ExOk(l, len(r)) != ok {
			t.Fatalf("EvalEx(%v) = %v %v, ExOk %v, not %v %v", l, got, valid, impl.ExOk(l, len(r)), want, ok)
		}
	}
}
