package value

import (
	"math"
	"math/big"
	"strings"
	"testing"

	"wainscot/api"
)

func num(n int64) api.Value { return api.Value{Kind: api.Int, N: n} }

func text(s string) api.Value { return api.Value{Kind: api.Text, S: s} }

// rising are values in DOC.md's order.
func rising() []api.Value {
	return []api.Value{
		{}, num(math.MinInt64), num(-2), num(-1), num(0), num(1), num(math.MaxInt64),
		text(""), text("\x00"), text("a"), text("a\x00"), text("aa"), text("b"), text("\xff"),
	}
}

func unformed() []api.Value {
	return []api.Value{
		{Kind: 3}, {Kind: -1}, {N: 1}, {S: "a"}, {Kind: api.Int, S: "a"}, {Kind: api.Int, N: 3, S: "a"},
		{Kind: api.Text, N: 1}, {Kind: api.Text, N: -1, S: "a"}, text(strings.Repeat("x", api.MaxText+1)),
		{Kind: math.MaxInt}, {Kind: math.MinInt},
	}
}

func sign(i, k int) int {
	switch {
	case i < k:
		return -1
	case i > k:
		return 1
	}
	return 0
}

func TestFormed(t *testing.T) {
	for _, v := range append(rising(), text(strings.Repeat("x", api.MaxText)), text(strings.Repeat("\xce\xb1", 50))) {
		if !Formed(v) {
			t.Error(v, "isn't formed")
		}
	}
	for _, v := range append(unformed(), text(strings.Repeat("\xce\xb1", 51))) {
		if Formed(v) {
			t.Error(v, "is formed")
		}
	}
}

func TestOrder(t *testing.T) {
	for i, a := range rising() {
		for k, b := range rising() {
			if got := Order(a, b); got != sign(i, k) {
				t.Error(a, b, got)
			}
		}
	}
}

func TestOrderOfUnformed(t *testing.T) {
	l := []api.Value{{Kind: -1, N: 9, S: "z"}, {N: -1}, {N: -1, S: "a"}, {}, {S: "a"}, {N: 1}, {Kind: 1, N: 2}, {Kind: 1, N: 2, S: "a"}, {Kind: 1, N: 3}, {Kind: 2, N: -5, S: "z"}, {Kind: 2, S: "a"}, {Kind: 3}}
	for i, a := range l {
		for k, b := range l {
			if got := Order(a, b); got != sign(i, k) {
				t.Error(a, b, got)
			}
		}
	}
}

func TestRows(t *testing.T) {
	l := [][]api.Value{
		nil, {{}}, {{}, {}}, {{}, num(1)}, {num(1)}, {num(1), {}}, {num(1), num(5)}, {num(1), text("a")},
		{num(1), text("a"), {}}, {num(2)}, {text("a")}, {text("a"), num(7)},
	}
	for i, a := range l {
		for k, b := range l {
			if got := Rows(a, b); got != sign(i, k) {
				t.Error(a, b, got)
			}
		}
	}
	if Rows([]api.Value{}, nil) != 0 {
		t.Error("no values: nil and empty differ")
	}
}

// meant is what op means of an order.
func meant(op string, order int) bool {
	return strings.ContainsRune(map[string]string{"=": "e", "<>": "lg", "<": "l", "<=": "le", ">": "g", ">=": "ge"}[op], rune("leg"[order+1]))
}

func TestCompare(t *testing.T) {
	for _, op := range []string{"=", "<>", "<", "<=", ">", ">="} {
		for i, a := range rising() {
			for k, b := range rising() {
				want, errno := api.False, api.OK
				switch {
				case a.Kind == api.Null || b.Kind == api.Null:
					want = api.Unknown
				case a.Kind != b.Kind:
					errno = api.ErrType
				case meant(op, sign(i, k)):
					want = api.True
				}
				if got, e := Compare(op, a, b); got != want || e != errno {
					t.Error(op, a, b, got, e)
				}
			}
		}
	}
}

func TestCompareWrong(t *testing.T) {
	for _, op := range []string{"", "!", "==", "<<", "+", "AND", "= "} {
		if got, e := Compare(op, num(1), num(1)); got != 0 || e != api.ErrArg {
			t.Error(op, got, e)
		}
	}
	for _, v := range unformed() {
		for _, w := range []api.Value{{}, num(1), text("a")} {
			if got, e := Compare("=", v, w); got != 0 || e != api.ErrArg {
				t.Error(v, w, got, e)
			}
			if got, e := Compare("=", w, v); got != 0 || e != api.ErrArg {
				t.Error(w, v, got, e)
			}
		}
	}
}

func TestTruths(t *testing.T) {
	f, u, y := api.False, api.Unknown, api.True
	for _, c := range []struct{ a, b, and, or int }{
		{f, f, f, f}, {f, y, f, y}, {f, u, f, u}, {y, f, f, y}, {y, y, y, y}, {y, u, u, y}, {u, f, f, u}, {u, y, u, y}, {u, u, u, u},
		{9, 9, u, u}, {-1, f, f, u}, {f, -1, f, u}, {3, y, u, y}, {y, 3, u, y}, {math.MinInt, math.MaxInt, u, u},
	} {
		if got := And(c.a, c.b); got != c.and {
			t.Error("And", c.a, c.b, got)
		}
		if got := Or(c.a, c.b); got != c.or {
			t.Error("Or", c.a, c.b, got)
		}
	}
	for a, want := range map[int]int{f: y, y: f, u: u, 3: u, -1: u, math.MaxInt: u} {
		if got := Not(a); got != want {
			t.Error("Not", a, got)
		}
	}
}

// exact reckons without a bound.
func exact(op string, a, b int64) (int64, bool) {
	x, y := big.NewInt(a), big.NewInt(b)
	switch op {
	case "+":
		x.Add(x, y)
	case "-":
		x.Sub(x, y)
	case "*":
		x.Mul(x, y)
	}
	return x.Int64(), x.IsInt64()
}

func TestReckon(t *testing.T) {
	edges := []int64{math.MinInt64, math.MinInt64 + 1, -1 << 62, -1 << 32, -3037000500, -1 << 31, -3, -2, -1, 0, 1, 2, 3, 1 << 31, 3037000499, 3037000500, 1 << 32, 1 << 62, math.MaxInt64 - 1, math.MaxInt64}
	for _, op := range []string{"+", "-", "*"} {
		for _, a := range edges {
			for _, b := range edges {
				n, fits := exact(op, a, b)
				want, errno := num(n), api.OK
				if !fits {
					want, errno = api.Value{}, api.ErrOver
				}
				if got, e := Reckon(op, num(a), num(b)); got != want || e != errno {
					t.Error(op, a, b, got, e)
				}
			}
		}
	}
}

func TestReckonOthers(t *testing.T) {
	for _, op := range []string{"+", "-", "*"} {
		for _, v := range []api.Value{{}, num(1), text("a"), text("")} {
			if got, e := Reckon(op, v, text("a")); got != (api.Value{}) || e != api.ErrType {
				t.Error(op, v, got, e)
			}
			if got, e := Reckon(op, text(""), v); got != (api.Value{}) || e != api.ErrType {
				t.Error(op, v, got, e)
			}
		}
		for _, v := range []api.Value{{}, num(0), num(math.MaxInt64)} {
			if got, e := Reckon(op, v, api.Value{}); got != (api.Value{}) || e != api.OK {
				t.Error(op, v, got, e)
			}
			if got, e := Reckon(op, api.Value{}, v); got != (api.Value{}) || e != api.OK {
				t.Error(op, v, got, e)
			}
		}
		for _, v := range unformed() {
			for _, w := range []api.Value{{}, num(1), text("a")} {
				if got, e := Reckon(op, v, w); got != (api.Value{}) || e != api.ErrArg {
					t.Error(op, v, w, got, e)
				}
				if got, e := Reckon(op, w, v); got != (api.Value{}) || e != api.ErrArg {
					t.Error(op, w, v, got, e)
				}
			}
		}
	}
	for _, op := range []string{"", "/", "=", "++", "%"} {
		if got, e := Reckon(op, num(4), num(2)); got != (api.Value{}) || e != api.ErrArg {
			t.Error(op, got, e)
		}
	}
}
