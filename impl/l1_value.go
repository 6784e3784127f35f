package impl

import (
	"cmp"
	"slices"
)

// MaxEx is the greatest number of Ops of an expression.
const MaxEx = 5000

// The comparisons.
const EqOp = 1
const NeOp = 2
const LtOp = 3
const LeOp = 4
const GtOp = 5
const GeOp = 6

// The kinds of Ops.
const XInt = 1
const XNull = 2
const XCol = 3
const XCmp = 4
const XAnd = 5
const XOr = 6
const XNot = 7
const XIsNull = 8

// Val is NULL or a number.
type Val struct {
	Null bool
	N    int64
}

// Op is one step of an expression.
type Op struct {
	K int
	N int64
}

// truth is a truth value, and the place of that value in the tables of the logic.
type truth int

const (
	truthFalse truth = iota
	truthUnknown
	truthTrue
	truthCount
)

var notTable = [truthCount]truth{truthTrue, truthUnknown, truthFalse}

var andTable = [truthCount][truthCount]truth{
	{truthFalse, truthFalse, truthFalse},
	{truthFalse, truthUnknown, truthUnknown},
	{truthFalse, truthUnknown, truthTrue},
}

var orTable = [truthCount][truthCount]truth{
	{truthFalse, truthUnknown, truthTrue},
	{truthUnknown, truthUnknown, truthTrue},
	{truthTrue, truthTrue, truthTrue},
}

// cmpTable is looked up by the op and by how the numbers stand: less, equal, greater.
var cmpTable = [GeOp + 1][3]truth{
	EqOp: {truthFalse, truthTrue, truthFalse},
	NeOp: {truthTrue, truthFalse, truthTrue},
	LtOp: {truthTrue, truthFalse, truthFalse},
	LeOp: {truthTrue, truthTrue, truthFalse},
	GtOp: {truthFalse, truthFalse, truthTrue},
	GeOp: {truthFalse, truthTrue, truthTrue},
}

// valTable holds the three Vals that the logic answers with.
var valTable = [truthCount]Val{{N: 0}, {Null: true}, {N: 1}}

// takesTable tells how many values an Op of each kind takes off the stack.
var takesTable = [XIsNull + 1]int{XCmp: 2, XAnd: 2, XOr: 2, XNot: 1, XIsNull: 1}

// truthOf reads a Val as a truth value.
func truthOf(a Val) truth {
	switch {
	case a.Null:
		return truthUnknown
	case a.N == 0:
		return truthFalse
	}
	return truthTrue
}

// isTruth gives the truth value of a yes or no.
func isTruth(yes bool) truth {
	if yes {
		return truthTrue
	}
	return truthFalse
}

// Not3 is the negation.
func Not3(a Val) Val {
	return valTable[notTable[truthOf(a)]]
}

// And3 is the conjunction.
func And3(a Val, b Val) Val {
	return valTable[andTable[truthOf(a)][truthOf(b)]]
}

// Or3 is the disjunction.
func Or3(a Val, b Val) Val {
	return valTable[orTable[truthOf(a)][truthOf(b)]]
}

// Cmp3 is a comparison.
func Cmp3(op int, a Val, b Val) Val {
	if a.Null || b.Null || op < EqOp || op > GeOp {
		return valTable[truthUnknown]
	}
	return valTable[cmpTable[op][cmp.Compare(a.N, b.N)+1]]
}

// valCmp orders Vals, with NULL in front of every number.
func valCmp(a Val, b Val) int {
	switch {
	case a.Null && b.Null:
		return 0
	case a.Null:
		return -1
	case b.Null:
		return 1
	}
	return cmp.Compare(a.N, b.N)
}

// RowCmp orders rows.
func RowCmp(a []Val, b []Val) int {
	for i := range min(len(a), len(b)) {
		if c := valCmp(a[i], b[i]); c != 0 {
			return c
		}
	}
	return cmp.Compare(len(a), len(b))
}

// cleanVal gives a Val as answers hold it: the N of a NULL may be anything in an argument.
func cleanVal(a Val) Val {
	if a.Null {
		return Val{Null: true}
	}
	return a
}

// copyRow gives a row in memory of its own, with clean Vals.
func copyRow(row []Val) []Val {
	out := make([]Val, len(row))
	for i, v := range row {
		out[i] = cleanVal(v)
	}
	return out
}

// sorted gives a new list of the same elements in increasing order. It merges, so that even
// the worst list takes no more than n log n steps.
func sorted[E any](list []E, order func(a E, b E) int) []E {
	if len(list) < 2 {
		return slices.Clone(list)
	}
	half := len(list) / 2
	a, b := sorted(list[:half], order), sorted(list[half:], order)
	out := make([]E, 0, len(list))
	for len(a) > 0 && len(b) > 0 {
		if order(a[0], b[0]) <= 0 {
			out, a = append(out, a[0]), a[1:]
		} else {
			out, b = append(out, b[0]), b[1:]
		}
	}
	return append(append(out, a...), b...)
}

// SortRows gives the same rows in order.
func SortRows(rows [][]Val) [][]Val {
	out := make([][]Val, len(rows))
	for i, row := range rows {
		out[i] = copyRow(row)
	}
	return sorted(out, RowCmp)
}

// opOk says whether the kind of an Op is one of the table and its N is as the table says.
func opOk(op Op, width int) bool {
	switch op.K {
	case XInt:
		return true
	case XCol:
		return op.N >= 0 && op.N < int64(width)
	case XCmp:
		return op.N >= EqOp && op.N <= GeOp
	case XNull, XAnd, XOr, XNot, XIsNull:
		return op.N == 0
	}
	return false
}

// ExOk says whether an expression is valid.
func ExOk(ex []Op, width int) bool {
	if len(ex) > MaxEx || width < 0 {
		return false
	}
	height := 0
	for _, op := range ex {
		if !opOk(op, width) || height < takesTable[op.K] {
			return false
		}
		height += 1 - takesTable[op.K]
	}
	return height == 1
}

// opVal gives what an Op of a valid expression pushes; a and b are what it takes, as far as
// it takes any.
func opVal(op Op, a Val, b Val, row []Val) Val {
	switch op.K {
	case XInt:
		return Val{N: op.N}
	case XCol:
		return cleanVal(row[op.N])
	case XCmp:
		return Cmp3(int(op.N), a, b)
	case XAnd:
		return And3(a, b)
	case XOr:
		return Or3(a, b)
	case XNot:
		return Not3(a)
	case XIsNull:
		return valTable[isTruth(a.Null)]
	}
	// No other kind but XNull comes here: the expression is valid.
	return Val{Null: true}
}

// runEx gives the value of an expression that is known to be valid for the row.
func runEx(ex []Op, row []Val) Val {
	stack := []Val{}
	for _, op := range ex {
		rest := len(stack) - takesTable[op.K]
		args := [2]Val{}
		copy(args[:], stack[rest:])
		stack = append(stack[:rest], opVal(op, args[0], args[1], row))
	}
	return stack[0]
}

// EvalEx gives the value of an expression.
func EvalEx(ex []Op, row []Val) (Val, bool) {
	if !ExOk(ex, len(row)) {
		return Val{Null: true}, false
	}
	return runEx(ex, row), true
}
