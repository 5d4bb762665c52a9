package code

import (
	"math"
	"slices"
	"strings"
	"testing"

	"wainscot/api"
	"wainscot/expr"
	"wainscot/scope"
)

func num(n int64) api.Value { return api.Value{Kind: api.Int, N: n} }

func one() scope.Cell { return scope.Cell{Kind: 1, V: num(1)} }

func binaryOps() []string { return strings.Fields("OR AND = <> < <= > >= + - *") }

func TestFormed(t *testing.T) {
	v := api.Value{Kind: api.Text, S: "a"}
	for _, in := range []Instr{
		{Op: "const", V: v}, {Op: "const", A: 2}, {Op: "const", A: 1, V: num(-5)}, {Op: "col"}, {Op: "col", A: 2, B: math.MaxInt, C: 999999}, {Op: "neg", A: 2, B: 1}, {Op: "null", B: 2}, {Op: "some", A: 1, B: 1}, {Op: "not", A: 2, B: 0}, {Op: "copy", A: 2, B: 2},
		{Op: "+", A: 2, B: 2, C: 2}, {Op: "-"}, {Op: "*", C: 1}, {Op: "=", A: 1}, {Op: "<>"}, {Op: "<"}, {Op: "<="}, {Op: ">"}, {Op: ">=", B: 2}, {Op: "and", A: 1, B: 2}, {Op: "or", A: 1, C: 2}, {Op: "false", B: 2, C: 1}, {Op: "true", C: 1},
	} {
		if !Formed(Program{Code: []Instr{in}, Registers: 3}) {
			t.Error(in)
		}
		for _, n := range []int{-1, 0, 1001, math.MinInt, math.MaxInt} {
			if Formed(Program{Code: []Instr{in}, Registers: n}) {
				t.Error(in, n)
			}
		}
		for _, change := range []func(in *Instr){func(in *Instr) { in.A = -1 }, func(in *Instr) { in.A = 3 }, func(in *Instr) { in.B = -1 }, func(in *Instr) { in.C = -1 }, func(in *Instr) { in.Op = "" }, func(in *Instr) { in.Op += " " }, func(in *Instr) { in.V = api.Value{Kind: 3} }} {
			bad := in
			change(&bad)
			if Formed(Program{Code: []Instr{bad}, Registers: 3}) {
				t.Error(bad)
			}
		}
		if in.Op != "col" {
			b, c := in, in
			b.B, c.C = 3, 3
			if Formed(Program{Code: []Instr{b}, Registers: 3}) || Formed(Program{Code: []Instr{c}, Registers: 3}) {
				t.Error(in, "has other registers")
			}
		}
		if in.Op != "const" {
			in.V = v
			if Formed(Program{Code: []Instr{in}, Registers: 3}) {
				t.Error(in)
			}
		}
	}
	for _, in := range []Instr{{Op: "const", B: 1}, {Op: "const", C: 1}, {Op: "neg", C: 1}, {Op: "null", C: 1}, {Op: "some", C: 1}, {Op: "not", C: 1}, {Op: "copy", C: 1}, {Op: "true", A: 1, C: 1}, {Op: "false", A: 2, C: 1}, {Op: "true"}, {Op: "false"}, {Op: "true", C: 2}, {Op: "AND"}, {Op: "IS NULL"}, {Op: "/"}, {}} {
		if Formed(Program{Code: []Instr{in}, Registers: 3}) {
			t.Error(in)
		}
	}
}

func TestFormedSizes(t *testing.T) {
	many := make([]Instr, 1000)
	for i := range many {
		many[i] = Instr{Op: "col", A: i}
	}
	if !Formed(Program{many, 1000}) || Formed(Program{append(slices.Clone(many), many[0]), 1000}) || Formed(Program{nil, 1}) || Formed(Program{many, 999}) {
		t.Error("sizes")
	}
	jump := func(at, to int) bool {
		l := slices.Repeat([]Instr{{Op: "col"}}, 5)
		l[at] = Instr{Op: "true", C: to}
		return Formed(Program{l, 1})
	}
	for at := range 5 {
		for to := -1; to < 8; to++ {
			if jump(at, to) != (to > at && to <= 5) {
				t.Error("jump", at, to)
			}
		}
	}
}

func TestCompile(t *testing.T) {
	p, e := Compile(scope.Cell{Kind: 2})
	if len(p.Code) != 1 || p.Code[0] != (Instr{Op: "col"}) || p.Registers != 1 || e != api.OK {
		t.Error(p, e)
	}
	yes := scope.Cell{Kind: 5, Op: "IS NULL", Parts: []scope.Cell{one()}}
	l := []scope.Cell{one(), {Kind: 1}, {Kind: 1, V: num(-3)}, {Kind: 2, Source: 7, Column: 8}, {Kind: 3, Op: "-", Parts: []scope.Cell{one()}}, {Kind: 3, Op: "NOT", Parts: []scope.Cell{yes}}, yes, {Kind: 5, Op: "IS NOT NULL", Parts: []scope.Cell{one()}}}
	for _, op := range binaryOps() {
		l = append(l, scope.Cell{Kind: 4, Op: op, Parts: []scope.Cell{one(), one()}}, scope.Cell{Kind: 4, Op: op, Parts: []scope.Cell{yes, yes}})
	}
	for _, c := range l {
		p, e := Compile(c)
		if e != api.OK || !Formed(p) {
			t.Error(c, e)
		}
		// It has what it needs alone.
		p.Registers--
		if Formed(p) {
			t.Error(c, "has too many registers")
		}
	}
}

func TestCompileWrong(t *testing.T) {
	with := func(c scope.Cell, parts ...scope.Cell) scope.Cell {
		c.Parts = parts
		return c
	}
	ring := make([]scope.Cell, 2)
	ring[0] = scope.Cell{Kind: 4, Op: "AND", Parts: ring}
	ring[1] = ring[0]
	bad := []scope.Cell{
		{}, {Kind: 7}, {Kind: -1}, {Kind: 6, Op: "COUNT"}, with(scope.Cell{Kind: 6, Op: "SUM"}, one()), {Kind: 1, Op: "-"}, with(scope.Cell{Kind: 1}, one()), {Kind: 1, V: api.Value{Kind: 3}}, {Kind: 1, V: api.Value{Kind: 2, S: strings.Repeat("x", 101)}}, {Kind: 1, V: api.Value{N: 1}},
		{Kind: 2, Op: "a"}, with(scope.Cell{Kind: 2}, one()), {Kind: 2, Source: -1}, {Kind: 2, Column: -1}, {Kind: 2, Source: math.MinInt}, {Kind: 3, Op: "-"}, with(scope.Cell{Kind: 3, Op: "-"}, one(), one()), with(scope.Cell{Kind: 3, Op: "+"}, one()), with(scope.Cell{Kind: 3}, one()),
		{Kind: 4, Op: "+"}, with(scope.Cell{Kind: 4, Op: "+"}, one()), with(scope.Cell{Kind: 4, Op: "+"}, one(), one(), one()), with(scope.Cell{Kind: 4, Op: "/"}, one(), one()), with(scope.Cell{Kind: 4, Op: "NOT"}, one(), one()), with(scope.Cell{Kind: 4}, one(), one()),
		{Kind: 5, Op: "IS NULL"}, with(scope.Cell{Kind: 5, Op: "IS NULL"}, one(), one()), with(scope.Cell{Kind: 5, Op: "NULL"}, one()), with(scope.Cell{Kind: 5}, one()), ring[0],
	}
	for _, c := range bad {
		for _, whole := range []scope.Cell{c, with(scope.Cell{Kind: 4, Op: "="}, one(), c), with(scope.Cell{Kind: 5, Op: "IS NULL"}, c)} {
			if p, e := Compile(whole); len(p.Code) > 0 || p.Registers != 0 || e != api.ErrArg {
				t.Errorf("%v: %d", c, e)
			}
		}
	}
}

// chain is so deep, and all is so many cells.
func chain(deep int) scope.Cell {
	c := one()
	for range deep - 1 {
		c = scope.Cell{Kind: 3, Op: "-", Parts: []scope.Cell{c}}
	}
	return c
}

func bushy(cells int) scope.Cell {
	if cells < 3 {
		return chain(cells)
	}
	half := (cells - 1) / 2
	return scope.Cell{Kind: 4, Op: "AND", Parts: []scope.Cell{bushy(half), bushy(cells - 1 - half)}}
}

func TestCompileBounds(t *testing.T) {
	for _, c := range []struct {
		c scope.Cell
		e api.Errno
	}{{chain(20), api.OK}, {chain(21), api.ErrArg}, {bushy(300), api.OK}, {bushy(301), api.ErrArg}, {bushy(5000), api.ErrArg}, {chain(5000), api.ErrArg}} {
		p, e := Compile(c.c)
		if e != c.e || Formed(p) != (e == api.OK) {
			t.Error(len(p.Code), e)
		}
	}
	// Parts that lead in a ring are too deep.
	ring := make([]scope.Cell, 1)
	ring[0] = scope.Cell{Kind: 3, Op: "-", Parts: ring}
	if _, e := Compile(ring[0]); e != api.ErrArg {
		t.Error(e)
	}
}

// What no layer tells, as a truth's part isn't one, compiles all the same; how it ends is asked where it is run.
func TestCompileMixed(t *testing.T) {
	for _, op := range []string{"AND", "OR", "="} {
		p, e := Compile(scope.Cell{Kind: 4, Op: op, Parts: []scope.Cell{one(), {Kind: 5, Op: "IS NULL", Parts: []scope.Cell{one()}}}})
		if e != api.OK || !Formed(p) {
			t.Error(op, e)
		}
	}
}

func TestOfExpressions(t *testing.T) {
	tables := []api.Table{{Name: "t", Columns: []api.Column{{Name: "a", Kind: api.Int}, {Name: "b", Kind: api.Text}}}}
	for _, s := range []string{"a", "a + 1 * -a", "a = 1 AND NOT b IS NULL OR b < 'x'", "NOT NOT NOT NOT NOT NOT a = 1"} {
		x, _ := expr.Parse(s)
		c, _, e := scope.Value(tables, []int{0}, x)
		if e != api.OK {
			t.Fatal(s, e)
		}
		if p, e := Compile(c); e != api.OK || !Formed(p) {
			t.Error(s, e)
		}
	}
}
