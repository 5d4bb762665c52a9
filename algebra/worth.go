// Package algebra is layer 16: what a query means.
package algebra

import (
	"wainscot/api"
	"wainscot/expr"
	"wainscot/scope"
	"wainscot/value"
)

// Worth answers what a cell is worth, given a row of each source: a value, or a truth.
func Worth(c scope.Cell, rows [][]api.Value) (api.Value, int, api.Errno) {
	if scope.Truthful(c) {
		truth, e := truthOf(c, rows)
		return api.Value{}, truth, e
	}
	v, e := valueOf(c, rows)
	return v, 0, e
}

// parts tells whether a cell has so many parts.
func parts(c scope.Cell, n int) bool { return len(c.Parts) == n }

func valueOf(c scope.Cell, rows [][]api.Value) (api.Value, api.Errno) {
	switch {
	case c.Kind == expr.KindLiteral:
		return formed(c.V)
	case c.Kind == expr.KindColumn:
		return columnOf(c, rows)
	case c.Kind == expr.KindUnary && c.Op == "-" && parts(c, 1):
		v, e := valueOf(c.Parts[0], rows)
		if e != api.OK {
			return api.Value{}, e
		}
		return reckoned("-", api.Value{Kind: api.Int}, v)
	case c.Kind == expr.KindBinary && !scope.Truthful(c):
		a, b, e := bothOf(c, rows)
		if e != api.OK {
			return api.Value{}, e
		}
		return reckoned(c.Op, a, b)
	}
	return api.Value{}, api.ErrArg
}

func formed(v api.Value) (api.Value, api.Errno) {
	if !value.Formed(v) {
		return api.Value{}, api.ErrArg
	}
	return v, api.OK
}

func columnOf(c scope.Cell, rows [][]api.Value) (api.Value, api.Errno) {
	if c.Source < 0 || c.Source >= len(rows) || c.Column < 0 || c.Column >= len(rows[c.Source]) {
		return api.Value{}, api.ErrArg
	}
	return formed(rows[c.Source][c.Column])
}

// bothOf answers the values of a cell's two parts.
func bothOf(c scope.Cell, rows [][]api.Value) (api.Value, api.Value, api.Errno) {
	if !parts(c, 2) {
		return api.Value{}, api.Value{}, api.ErrArg
	}
	a, e := valueOf(c.Parts[0], rows)
	if e != api.OK {
		return api.Value{}, api.Value{}, e
	}
	b, e := valueOf(c.Parts[1], rows)
	return a, b, e
}

func reckoned(op string, a, b api.Value) (api.Value, api.Errno) {
	v, e := value.Reckon(op, a, b)
	return v, unfit(e)
}

// unfit makes the error of kinds that don't fit one of arguments.
func unfit(e api.Errno) api.Errno {
	if e == api.ErrType {
		return api.ErrArg
	}
	return e
}

func truthOf(c scope.Cell, rows [][]api.Value) (int, api.Errno) {
	switch {
	case !scope.Truthful(c):
		return 0, api.ErrArg
	case c.Kind == expr.KindTest:
		return testOf(c, rows)
	case c.Kind == expr.KindUnary:
		if !parts(c, 1) {
			return 0, api.ErrArg
		}
		truth, e := truthOf(c.Parts[0], rows)
		if e != api.OK {
			return 0, e
		}
		return value.Not(truth), api.OK
	case c.Op == "AND":
		return joinedOf(c, rows, api.False, value.And)
	case c.Op == "OR":
		return joinedOf(c, rows, api.True, value.Or)
	}
	a, b, e := bothOf(c, rows)
	if e != api.OK {
		return 0, e
	}
	truth, e := value.Compare(c.Op, a, b)
	return truth, unfit(e)
}

// joinedOf answers the truth of an AND or OR; its right part isn't looked at, if the left one settles it.
func joinedOf(c scope.Cell, rows [][]api.Value, settles int, join func(a, b int) int) (int, api.Errno) {
	if !parts(c, 2) {
		return 0, api.ErrArg
	}
	left, e := truthOf(c.Parts[0], rows)
	if e != api.OK || left == settles {
		return left, e
	}
	right, e := truthOf(c.Parts[1], rows)
	if e != api.OK {
		return 0, e
	}
	return join(left, right), api.OK
}

func testOf(c scope.Cell, rows [][]api.Value) (int, api.Errno) {
	if !parts(c, 1) || c.Op != expr.OpNull && c.Op != expr.OpSome {
		return 0, api.ErrArg
	}
	v, e := valueOf(c.Parts[0], rows)
	if e != api.OK {
		return 0, e
	}
	if (v.Kind == api.Null) == (c.Op == expr.OpNull) {
		return api.True, api.OK
	}
	return api.False, api.OK
}
