package vm

import (
	"math"
	"math/rand"
	"testing"

	"wainscot/algebra"
	"wainscot/api"
	"wainscot/code"
	"wainscot/expr"
	"wainscot/scope"
)

type in = code.Instr

func num(n int64) api.Value { return api.Value{Kind: api.Int, N: n} }

func text(s string) api.Value { return api.Value{Kind: api.Text, S: s} }

func load(a int, v api.Value) in { return in{Op: "const", A: a, V: v} }

func run(rows [][]api.Value, registers int, list ...in) (api.Value, int, api.Errno) {
	return Run(code.Program{Code: list, Registers: registers}, rows)
}

func TestRun(t *testing.T) {
	rows := [][]api.Value{{num(7), text("x")}, {{}, num(-2)}}
	yes := func(a int) []in {
		return []in{load(a, num(1)), {Op: "=", A: a, B: a, C: a}}
	}
	no := func(a int) []in { return append(yes(a), in{Op: "not", A: a, B: a}) }
	join := func(parts ...[]in) []in {
		var l []in
		for _, p := range parts {
			l = append(l, p...)
		}
		return l
	}
	for i, c := range []struct {
		list  []in
		v     api.Value
		truth int
	}{
		{[]in{load(0, num(1)), {Op: "+"}}, num(2), api.Unknown},
		{[]in{load(0, text("q"))}, text("q"), api.Unknown},
		{[]in{load(1, num(1))}, api.Value{}, api.Unknown},
		{[]in{{Op: "col", B: 1, C: 1}}, num(-2), api.Unknown},
		{[]in{{Op: "col", B: 0, C: 1}}, text("x"), api.Unknown},
		{[]in{{Op: "col", B: 1}}, api.Value{}, api.Unknown},
		{[]in{{Op: "col", A: 1}, {Op: "neg", B: 1}}, num(-7), api.Unknown},
		{[]in{{Op: "neg", B: 1}}, api.Value{}, api.Unknown},
		{[]in{load(1, num(5)), load(2, num(3)), {Op: "-", B: 1, C: 2}}, num(2), api.Unknown},
		{[]in{load(1, num(5)), load(2, num(3)), {Op: "*", B: 1, C: 2}}, num(15), api.Unknown},
		{[]in{load(1, num(5)), load(2, num(3)), {Op: "+", B: 1, C: 2}}, num(8), api.Unknown},
		{[]in{load(1, num(5)), {Op: "+", B: 1, C: 2}}, api.Value{}, api.Unknown},
		{[]in{load(1, num(5)), load(2, num(3)), {Op: "=", B: 1, C: 2}}, api.Value{}, api.False},
		{[]in{load(1, num(5)), load(2, num(3)), {Op: "<>", B: 1, C: 2}}, api.Value{}, api.True},
		{[]in{load(1, num(5)), load(2, num(3)), {Op: "<", B: 1, C: 2}}, api.Value{}, api.False},
		{[]in{load(1, num(5)), load(2, num(3)), {Op: ">", B: 1, C: 2}}, api.Value{}, api.True},
		{[]in{load(1, num(5)), load(2, num(5)), {Op: "<=", B: 1, C: 2}}, api.Value{}, api.True},
		{[]in{load(1, num(5)), load(2, num(5)), {Op: ">=", B: 1, C: 2}}, api.Value{}, api.True},
		{[]in{load(1, num(5)), {Op: "=", B: 1, C: 2}}, api.Value{}, api.Unknown},
		{[]in{load(0, num(5)), {Op: "=", B: 0, C: 0}}, num(5), api.True},
		{[]in{{Op: "null", B: 1}}, api.Value{}, api.True},
		{[]in{load(1, num(5)), {Op: "null", B: 1}}, api.Value{}, api.False},
		{[]in{{Op: "some", B: 1}}, api.Value{}, api.False},
		{[]in{load(1, text("")), {Op: "some", B: 1}}, api.Value{}, api.True},
		{[]in{{Op: "not", B: 1}}, api.Value{}, api.Unknown},
		{join(yes(1), []in{{Op: "not", B: 1}}), api.Value{}, api.False},
		{join(no(1), []in{{Op: "not", B: 1}}), api.Value{}, api.True},
		{join(yes(1), []in{{Op: "and", B: 1, C: 2}}), api.Value{}, api.Unknown},
		{join(no(1), []in{{Op: "and", B: 2, C: 1}}), api.Value{}, api.False},
		{join(yes(1), []in{{Op: "and", B: 1, C: 1}}), api.Value{}, api.True},
		{join(yes(1), []in{{Op: "or", B: 2, C: 1}}), api.Value{}, api.True},
		{join(no(1), []in{{Op: "or", B: 1, C: 2}}), api.Value{}, api.Unknown},
		{join(no(1), []in{{Op: "or", B: 1, C: 1}}), api.Value{}, api.False},
		{join(yes(1), []in{{Op: "copy", A: 0, B: 1}}), num(1), api.True},
		{join(yes(0), []in{{Op: "copy", A: 0, B: 1}}), api.Value{}, api.Unknown},
		{join(yes(1), []in{{Op: "true", B: 1, C: 4}, load(0, num(9))}), api.Value{}, api.Unknown},
		{join(no(1), []in{{Op: "true", B: 1, C: 5}, load(0, num(9))}), num(9), api.Unknown},
		{[]in{{Op: "true", B: 1, C: 2}, load(0, num(9))}, num(9), api.Unknown},
		{join(no(1), []in{{Op: "false", B: 1, C: 5}, load(0, num(9))}), api.Value{}, api.Unknown},
		{join(yes(1), []in{{Op: "false", B: 1, C: 4}, load(0, num(9))}), num(9), api.Unknown},
		{[]in{{Op: "false", B: 1, C: 2}, load(0, num(9))}, num(9), api.Unknown},
		{join(yes(1), []in{{Op: "true", B: 1, C: 4}, {Op: "col", B: 99}, load(0, num(3))}), num(3), api.Unknown},
	} {
		if v, truth, e := run(rows, 3, c.list...); v != c.v || truth != c.truth || e != api.OK {
			t.Error(i, v, truth, e)
		}
	}
}

func TestRunErrors(t *testing.T) {
	rows := [][]api.Value{{num(7), text("x")}, nil, {{Kind: 9}, {N: 1}}}
	max, least := num(math.MaxInt64), num(math.MinInt64)
	for i, c := range []struct {
		list []in
		e    api.Errno
	}{
		{nil, api.ErrArg}, {[]in{{Op: "?"}}, api.ErrArg}, {[]in{{Op: "copy", B: 3}}, api.ErrArg}, {[]in{load(0, num(1)), {Op: "true", C: 1}}, api.ErrArg},
		{[]in{{Op: "col", B: 3}}, api.ErrArg}, {[]in{{Op: "col", C: 2}}, api.ErrArg}, {[]in{{Op: "col", B: 1}}, api.ErrArg}, {[]in{{Op: "col", B: math.MaxInt, C: math.MaxInt}}, api.ErrArg}, {[]in{{Op: "col", B: 2}}, api.ErrArg}, {[]in{{Op: "col", B: 2, C: 1}}, api.ErrArg},
		{[]in{{Op: "col", C: 1}, {Op: "neg"}}, api.ErrType}, {[]in{{Op: "col", C: 1}, {Op: "+"}}, api.ErrType}, {[]in{{Op: "col", C: 1}, {Op: "*", C: 1}}, api.ErrType}, {[]in{{Op: "col", C: 1}, load(1, num(1)), {Op: "<", C: 1}}, api.ErrType}, {[]in{{Op: "col", C: 1}, {Op: "=", C: 1}}, api.OK},
		{[]in{load(0, max), {Op: "+"}}, api.ErrOver}, {[]in{load(0, least), {Op: "neg"}}, api.ErrOver}, {[]in{load(0, max), {Op: "*"}}, api.ErrOver}, {[]in{load(0, least), load(1, num(1)), {Op: "-", C: 1}}, api.ErrOver},
		{[]in{load(0, max), {Op: "+"}, load(0, num(1))}, api.ErrOver}, {[]in{{Op: "col", B: 9}, load(0, max), {Op: "+"}}, api.ErrArg},
	} {
		v, truth, e := run(rows, 3, c.list...)
		if e != c.e || e != api.OK && (v != (api.Value{}) || truth != 0) {
			t.Error(i, v, truth, e)
		}
	}
	if _, _, e := run(nil, 0, load(0, num(1))); e != api.ErrArg {
		t.Error(e)
	}
}

func tables() []api.Table {
	return []api.Table{
		{Name: "t", Columns: []api.Column{{Name: "a", Kind: api.Int}, {Name: "b", Kind: api.Text}, {Name: "n"}}},
		{Name: "u", Columns: []api.Column{{Name: "c", Kind: api.Int}, {Name: "d", Kind: api.Text}}},
	}
}

func pick(r *rand.Rand, l ...string) string { return l[r.Intn(len(l))] }

// random makes an expression at most so deep: a truth, a number or a text, as kind says.
func random(r *rand.Rand, kind, deep int) expr.Expr {
	un := func(k int, op string, p expr.Expr) expr.Expr {
		return expr.Expr{Kind: k, Op: op, Parts: []expr.Expr{p}}
	}
	bin := func(op string, kind int) expr.Expr {
		return expr.Expr{Kind: 4, Op: op, Parts: []expr.Expr{random(r, kind, deep-1), random(r, kind, deep-1)}}
	}
	switch {
	case kind == scope.Truth && deep > 2 && r.Intn(4) == 0:
		return un(3, "NOT", random(r, scope.Truth, deep-1))
	case kind == scope.Truth && deep > 2 && r.Intn(2) == 0:
		return bin(pick(r, "AND", "OR"), scope.Truth)
	case kind == scope.Truth && r.Intn(4) == 0:
		return un(5, pick(r, "IS NULL", "IS NOT NULL"), random(r, 1+r.Intn(2), deep-1))
	case kind == scope.Truth:
		return bin(pick(r, "=", "<>", "<", "<=", ">", ">="), 1+r.Intn(2))
	case r.Intn(8) == 0:
		return expr.Expr{Kind: 1}
	case kind == api.Text && r.Intn(2) == 0:
		return expr.Expr{Kind: 1, V: text(pick(r, "", "x", "y"))}
	case kind == api.Text:
		return expr.Expr{Kind: 2, Column: pick(r, "b", "d", "n")}
	case deep > 1 && r.Intn(2) == 0:
		return bin(pick(r, "+", "-", "*"), 1)
	case deep > 1 && r.Intn(4) == 0:
		return un(3, "-", random(r, 1, deep-1))
	case r.Intn(2) == 0:
		return expr.Expr{Kind: 1, V: num([]int64{0, 1, 2, 1 << 40, math.MaxInt64}[r.Intn(5)])}
	}
	return expr.Expr{Kind: 2, Column: pick(r, "a", "c", "n")}
}

// randomRows are rows that fit, or, now and then, not.
func randomRows(r *rand.Rand) [][]api.Value {
	numbers := []api.Value{{}, num(0), num(1), num(-1), num(math.MaxInt64), num(math.MinInt64), num(1 << 40)}
	texts := []api.Value{{}, text(""), text("x"), text("y")}
	n := func() api.Value { return numbers[r.Intn(len(numbers))] }
	s := func() api.Value { return texts[r.Intn(len(texts))] }
	rows := [][]api.Value{{n(), s(), {}}, {n(), s()}}
	switch r.Intn(12) {
	case 0:
		rows = rows[:r.Intn(2)]
	case 1:
		i := r.Intn(2)
		rows[i] = rows[i][:r.Intn(2)]
	case 2:
		rows[r.Intn(2)][r.Intn(2)] = api.Value{Kind: r.Intn(4), N: 1}
	case 3:
		rows[0][0], rows[0][1] = rows[0][1], rows[0][0]
	}
	return rows
}

func TestAsWorth(t *testing.T) {
	r := rand.New(rand.NewSource(18))
	met := map[api.Errno]int{}
	for range 30000 {
		x := random(r, 1+r.Intn(3), 1+r.Intn(6))
		c, kind, e := scope.Value(tables(), []int{0, 1}, x)
		if e != api.OK {
			t.Fatal(x, e)
		}
		p, e := code.Compile(c)
		if e != api.OK {
			t.Fatal(x, e)
		}
		rows := randomRows(r)
		v, truth, want := algebra.Worth(c, rows)
		got, gotTruth, e := Run(p, rows)
		met[e]++
		if e != want && (e != api.ErrType || want != api.ErrArg) {
			t.Fatal(x, rows, e, want)
		}
		if e == api.OK && (kind != scope.Truth && got != v || kind == scope.Truth && gotTruth != truth) {
			t.Fatal(x, rows, got, gotTruth, v, truth)
		}
	}
	for _, e := range []api.Errno{api.OK, api.ErrArg, api.ErrType, api.ErrOver} {
		if met[e] < 100 {
			t.Error(met)
		}
	}
}

// A cell that no layer tells ends as it does by its worth.
func TestMixed(t *testing.T) {
	one := scope.Cell{Kind: 1, V: num(1)}
	yes := scope.Cell{Kind: 5, Op: "IS NOT NULL", Parts: []scope.Cell{one}}
	no := scope.Cell{Kind: 5, Op: "IS NULL", Parts: []scope.Cell{one}}
	for _, op := range []string{"AND", "OR", "=", "+"} {
		for _, l := range [][]scope.Cell{{one, yes}, {yes, one}, {no, one}, {yes, no}} {
			c := scope.Cell{Kind: 4, Op: op, Parts: l}
			p, e := code.Compile(c)
			if e != api.OK {
				t.Fatal(e)
			}
			v, truth, want := algebra.Worth(c, nil)
			got, gotTruth, e := Run(p, nil)
			if e != want || e == api.OK && (scope.Truthful(c) && gotTruth != truth || !scope.Truthful(c) && got != v) {
				t.Error(op, got, gotTruth, e, want)
			}
		}
	}
}
