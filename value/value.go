// Package value is layer 1: values, compared and reckoned.
package value

import (
	"cmp"
	"math"

	"wainscot/api"
)

// Formed tells whether v is a value as DOC.md speaks of one.
func Formed(v api.Value) bool {
	switch v.Kind {
	case api.Null:
		return v.N == 0 && v.S == ""
	case api.Int:
		return v.S == ""
	case api.Text:
		return v.N == 0 && len(v.S) <= api.MaxText
	}
	return false
}

// Order tells which of two values comes first: -1, 0 or 1.
func Order(a, b api.Value) int {
	return cmp.Or(cmp.Compare(a.Kind, b.Kind), cmp.Compare(a.N, b.N), cmp.Compare(a.S, b.S))
}

// Rows tells which of two rows comes first: -1, 0 or 1.
func Rows(a, b []api.Value) int {
	for i := range min(len(a), len(b)) {
		if o := Order(a[i], b[i]); o != 0 {
			return o
		}
	}
	return cmp.Compare(len(a), len(b))
}

// Compare answers the truth of a op b.
func Compare(op string, a, b api.Value) (int, api.Errno) {
	if !comparing(op) || !Formed(a) || !Formed(b) {
		return 0, api.ErrArg
	}
	if a.Kind == api.Null || b.Kind == api.Null {
		return api.Unknown, api.OK
	}
	if a.Kind != b.Kind {
		return 0, api.ErrType
	}
	return truth(holds(op, Order(a, b))), api.OK
}

func comparing(op string) bool {
	switch op {
	case "=", "<>", "<", "<=", ">", ">=":
		return true
	}
	return false
}

// holds tells whether two values of that order stand to one another as op says.
func holds(op string, order int) bool {
	switch op {
	case "=":
		return order == 0
	case "<>":
		return order != 0
	case "<":
		return order < 0
	case "<=":
		return order <= 0
	case ">":
		return order > 0
	}
	return order >= 0
}

func truth(b bool) int {
	if b {
		return api.True
	}
	return api.False
}

// And, Or and Not are those of three-valued logic; a number that is no truth counts as Unknown.
func And(a, b int) int {
	if a == api.False || b == api.False {
		return api.False
	}
	if a == api.True && b == api.True {
		return api.True
	}
	return api.Unknown
}

// Or: see And.
func Or(a, b int) int {
	return Not(And(Not(a), Not(b)))
}

// Not: see And.
func Not(a int) int {
	switch a {
	case api.False:
		return api.True
	case api.True:
		return api.False
	}
	return api.Unknown
}

// Reckon answers a op b, a number or NULL.
func Reckon(op string, a, b api.Value) (api.Value, api.Errno) {
	if op != "+" && op != "-" && op != "*" || !Formed(a) || !Formed(b) {
		return api.Value{}, api.ErrArg
	}
	if a.Kind == api.Text || b.Kind == api.Text {
		return api.Value{}, api.ErrType
	}
	if a.Kind == api.Null || b.Kind == api.Null {
		return api.Value{}, api.OK
	}
	n, fits := reckon(op, a.N, b.N)
	if !fits {
		return api.Value{}, api.ErrOver
	}
	return api.Value{Kind: api.Int, N: n}, api.OK
}

func reckon(op string, a, b int64) (int64, bool) {
	switch op {
	case "+":
		n := a + b
		return n, (n > a) == (b > 0)
	case "-":
		n := a - b
		return n, (n < a) == (b > 0)
	}
	return times(a, b)
}

func times(a, b int64) (int64, bool) {
	if a == 0 || b == 0 {
		return 0, true
	}
	// Here the quotient below would wrap round, too, and look right.
	if b == -1 && a == math.MinInt64 {
		return 0, false
	}
	n := a * b
	return n, n/b == a
}
