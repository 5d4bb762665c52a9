package code_test

import (
	"testing"

	"wainscot/algebra"
	"wainscot/api"
	"wainscot/code"
	"wainscot/expr"
	"wainscot/scope"
	"wainscot/vm"
)

func tables() []api.Table {
	return []api.Table{
		{Name: "t", Columns: []api.Column{{Name: "a", Kind: api.Int}, {Name: "b", Kind: api.Text}}},
		{Name: "u", Columns: []api.Column{{Name: "c", Kind: api.Int}, {Name: "n", Kind: api.Null}}},
	}
}

// What is compiled is, run, what the cell is worth.
func TestCompiledIsRun(t *testing.T) {
	five := api.Value{Kind: api.Int, N: 5}
	for _, rows := range [][][]api.Value{
		{{five, {Kind: api.Text, S: "x"}}, {{Kind: api.Int, N: -3}, {}}},
		{{{}, {}}, {five, {}}},
		{{{Kind: api.Int, N: 1 << 62}, {Kind: api.Text, S: "y"}}, {{Kind: api.Int, N: 1 << 62}, {}}},
		{{five, {}}},
	} {
		for _, s := range []string{
			"1", "'x'", "NULL", "a", "b", "c", "n", "-a", "a + c", "a - c", "a * c", "a - c * 2 - -a", "(a + c) * (a - c)", "a + n", "-(-c)",
			"a = c", "a <> c", "a < c", "a <= c", "a > c", "a >= c", "b = 'x'", "b < 'y'", "a IS NULL", "a IS NOT NULL", "a + c IS NULL", "a * c IS NOT NULL", "NOT a = 5", "NOT b IS NULL",
			"a = 5 AND c = 5", "a = 5 AND b = 'x'", "a = 5 OR c = 5", "a = 1 OR c = 1", "NOT (a = 5 AND (c > 0 OR b = 'x'))", "a = 5 AND (b = 'x' OR c = 5) AND NOT c = 7", "a = NULL OR a = 5", "a = NULL AND a = 5", "a = 1 AND c + a > 0", "a = 5 OR a + a + c > 0", "a + 1 < c * 2 AND b IS NOT NULL OR n IS NULL",
		} {
			e, errno := expr.Parse(s)
			if errno != api.OK {
				t.Fatal(s, errno)
			}
			c, kind, errno := scope.Value(tables(), []int{0, 1}, e)
			if errno != api.OK {
				t.Fatal(s, errno)
			}
			p, errno := code.Compile(c)
			if errno != api.OK || !code.Formed(p) {
				t.Fatal(s, errno)
			}
			v, truth, want := algebra.Worth(c, rows)
			got, gotTruth, errno := vm.Run(p, rows)
			if errno != want || errno == api.OK && (kind == scope.Truth && (gotTruth != truth || got != (api.Value{})) || kind != scope.Truth && got != v) {
				t.Error(s, rows, got, gotTruth, errno, v, truth, want)
			}
		}
	}
}
