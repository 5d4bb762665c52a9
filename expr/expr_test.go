package expr

import (
	"math"
	"math/rand"
	"strings"
	"testing"

	"wainscot/api"
	"wainscot/lexer"
)

func num(n int64) Expr { return Expr{Kind: 1, V: api.Value{Kind: api.Int, N: n}} }

func text(s string) Expr { return Expr{Kind: 1, V: api.Value{Kind: api.Text, S: s}} }

func null() Expr { return Expr{Kind: 1} }

func col(name string) Expr { return Expr{Kind: 2, Column: name} }

func of(table, name string) Expr { return Expr{Kind: 2, Table: table, Column: name} }

func un(op string, p Expr) Expr { return Expr{Kind: 3, Op: op, Parts: []Expr{p}} }

func bin(op string, a, b Expr) Expr { return Expr{Kind: 4, Op: op, Parts: []Expr{a, b}} }

func test(op string, p Expr) Expr { return Expr{Kind: 5, Op: op, Parts: []Expr{p}} }

func agg(op string, parts ...Expr) Expr { return Expr{Kind: 6, Op: op, Parts: parts} }

// nots is an expression that is so deep.
func nots(deep int) Expr {
	e := col("a")
	for range deep - 1 {
		e = un("NOT", e)
	}
	return e
}

// written are expressions with their texts as Print writes them.
func written() map[string]Expr {
	a, b, c := col("a"), col("b"), col("c")
	return map[string]Expr{
		"a": a, "t.b": of("t", "b"), "NULL": null(), "0": num(0), "9223372036854775807": num(math.MaxInt64), "''": text(""), "'it''s'": text("it's"), "'\x00\xff'": text("\x00\xff"),
		"a + 1 < t.b AND NOT c IS NULL": bin("AND", bin("<", bin("+", a, num(1)), of("t", "b")), un("NOT", test("IS NULL", c))),
		"COUNT(*)":                      agg("COUNT"), "COUNT(a)": agg("COUNT", a), "SUM(a + b)": agg("SUM", bin("+", a, b)), "MIN(a)": agg("MIN", a), "MAX(a OR b)": agg("MAX", bin("OR", a, b)),
		"a OR b OR c": bin("OR", bin("OR", a, b), c), "a OR (b OR c)": bin("OR", a, bin("OR", b, c)),
		"a AND b AND c": bin("AND", bin("AND", a, b), c), "a AND (b AND c)": bin("AND", a, bin("AND", b, c)),
		"a OR b AND c": bin("OR", a, bin("AND", b, c)), "(a OR b) AND c": bin("AND", bin("OR", a, b), c),
		"NOT a AND b": bin("AND", un("NOT", a), b), "NOT (a AND b)": un("NOT", bin("AND", a, b)), "NOT NOT a": un("NOT", un("NOT", a)), "NOT a OR NOT b": bin("OR", un("NOT", a), un("NOT", b)),
		"NOT a = b": un("NOT", bin("=", a, b)), "(NOT a) = b": bin("=", un("NOT", a), b), "a = (NOT b)": bin("=", a, un("NOT", b)),
		"(NOT a) IS NULL": test("IS NULL", un("NOT", a)), "NOT a IS NOT NULL": un("NOT", test("IS NOT NULL", a)),
		"(a < b) < c": bin("<", bin("<", a, b), c), "a < (b < c)": bin("<", a, bin("<", b, c)), "(a IS NULL) IS NULL": test("IS NULL", test("IS NULL", a)), "(a = b) IS NOT NULL": test("IS NOT NULL", bin("=", a, b)), "a = (b IS NULL)": bin("=", a, test("IS NULL", b)),
		"a + b IS NULL": test("IS NULL", bin("+", a, b)), "a + (b IS NULL)": bin("+", a, test("IS NULL", b)),
		"a + b - c": bin("-", bin("+", a, b), c), "a - (b - c)": bin("-", a, bin("-", b, c)), "a + (b - c)": bin("+", a, bin("-", b, c)),
		"a * b + c": bin("+", bin("*", a, b), c), "a + b * c": bin("+", a, bin("*", b, c)), "(a + b) * c": bin("*", bin("+", a, b), c), "a * (b + c)": bin("*", a, bin("+", b, c)), "a * b * c": bin("*", bin("*", a, b), c), "a * (b * c)": bin("*", a, bin("*", b, c)),
		"-a": un("-", a), "-(-a)": un("-", un("-", a)), "-(-(-1))": un("-", un("-", un("-", num(1)))), "a - -b": bin("-", a, un("-", b)), "-a * b": bin("*", un("-", a), b), "a * -b": bin("*", a, un("-", b)), "-(a * b)": un("-", bin("*", a, b)), "-(a + b)": un("-", bin("+", a, b)), "-(NOT a)": un("-", un("NOT", a)), "-COUNT(*)": un("-", agg("COUNT")), "-a IS NULL": test("IS NULL", un("-", a)), "-t.a - 1": bin("-", un("-", of("t", "a")), num(1)),
		"a = b": bin("=", a, b), "a <> b": bin("<>", a, b), "a <= b": bin("<=", a, b), "a > b": bin(">", a, b), "a >= b": bin(">=", a, b), "a + b = b + c": bin("=", bin("+", a, b), bin("+", b, c)),
		"MIN(MAX(a)) + COUNT(b = c)":    bin("+", agg("MIN", agg("MAX", a)), agg("COUNT", bin("=", b, c))),
		"NOT NOT NOT NOT NOT NOT NOT a": nots(8), "'" + strings.Repeat("x", api.MaxText) + "'": text(strings.Repeat("x", api.MaxText)),
	}
}

func TestPrintAndParse(t *testing.T) {
	for s, want := range written() {
		if got, e := Print(want); got != s || e != api.OK {
			t.Errorf("%s: printed %s %d", s, got, e)
		}
		if got, e := Parse(s); !Same(got, want) || e != api.OK {
			t.Errorf("%s: parsed %v %d", s, got, e)
		}
		if !Formed(want) {
			t.Errorf("%s isn't formed", s)
		}
	}
}

func TestParseOtherTexts(t *testing.T) {
	for s, same := range map[string]string{
		"(a)": "a", "((((((((((((a))))))))))))": "a", " t . b ": "t.b", "- - a": "-(-a)", "- 5": "-5", "(a+b)+c": "a + b + c", "a--x\n+b": "a + b", "COUNT ( * )": "COUNT(*)", "SUM((a))": "SUM(a)", "(a < b) = (c)": "(a < b) = c", "NOT(a)": "NOT a", "-(a)": "-a", "(NOT a)": "NOT a", "((a)) IS NOT NULL": "a IS NOT NULL", "'a''b'": "'a''b'",
	} {
		got, e := Parse(s)
		if want, _ := Parse(same); !Same(got, want) || e != api.OK {
			t.Errorf("%s: %v %d", s, got, e)
		}
	}
}

func TestTake(t *testing.T) {
	for _, c := range []struct {
		s    string
		used int
		e    api.Errno
	}{
		{"a", 1, api.OK}, {"a b", 1, api.OK}, {"a , b", 1, api.OK}, {"a < b < c", 3, api.OK}, {"a < b IS NULL", 3, api.OK}, {"a IS NULL IS NULL", 3, api.OK}, {"a IS NULL = b", 3, api.OK}, {"NOT a = b = c", 4, api.OK}, {"a + 1 )", 3, api.OK}, {"COUNT(*) FROM", 4, api.OK}, {"a NOT", 1, api.OK}, {"a AS b", 1, api.OK}, {"1 2", 1, api.OK}, {"t.b.c", 3, api.OK}, {"1.a", 1, api.OK}, {"a;", 1, api.OK}, {"a = b AND c = d OR e DESC", 9, api.OK},
		{"", 0, api.ErrSyntax}, {")", 0, api.ErrSyntax}, {"* a", 0, api.ErrSyntax}, {"SELECT", 0, api.ErrSyntax}, {"a +", 2, api.ErrSyntax}, {"a + )", 2, api.ErrSyntax}, {"a AND", 2, api.ErrSyntax}, {"a < = b", 2, api.ErrSyntax}, {"(a", 2, api.ErrSyntax}, {"(a b)", 2, api.ErrSyntax}, {"()", 1, api.ErrSyntax}, {"a IS", 2, api.ErrSyntax}, {"a IS b", 2, api.ErrSyntax}, {"a IS NOT", 3, api.ErrSyntax}, {"a IS NOT b", 3, api.ErrSyntax}, {"t.", 2, api.ErrSyntax}, {"t.1", 2, api.ErrSyntax}, {"t.COUNT", 2, api.ErrSyntax}, {"t.NULL", 2, api.ErrSyntax}, {"COUNT", 1, api.ErrSyntax}, {"COUNT a", 1, api.ErrSyntax}, {"COUNT()", 2, api.ErrSyntax}, {"COUNT(*", 3, api.ErrSyntax}, {"COUNT(*+a)", 3, api.ErrSyntax}, {"SUM(*)", 2, api.ErrSyntax}, {"SUM(a", 3, api.ErrSyntax}, {"SUM(a,b)", 3, api.ErrSyntax}, {"NOT", 1, api.ErrSyntax}, {"-", 1, api.ErrSyntax}, {"+a", 0, api.ErrSyntax}, {"a + NOT b", 2, api.ErrSyntax}, {"- NOT a", 1, api.ErrSyntax}, {"a = NOT b", 2, api.ErrSyntax}, {"(a < b < c)", 4, api.ErrSyntax}, {"AVG +", 2, api.ErrSyntax}, {"a * * b", 2, api.ErrSyntax},
		{"NOT NOT NOT NOT NOT NOT NOT NOT a", 0, api.ErrDeep}, {"a+a+a+a+a+a+a+a", 15, api.OK}, {"a+a+a+a+a+a+a+a+a", 0, api.ErrDeep}, {"a+a+a+a+a+a+a+a+a b", 0, api.ErrDeep}, {"a+a+a+a+a+a+a+a+a+", 18, api.ErrSyntax}, {"((((((((((a))))))))))", 21, api.OK}, {"SUM(-(-(-(-(-(-(-a)))))))", 0, api.ErrDeep}, {"a IS NULL AND (a+a+a+a+a+a+a+a)", 0, api.ErrDeep},
	} {
		words, e := lexer.Words(c.s)
		if e != api.OK {
			t.Fatal(c.s, e)
		}
		got, used, e := Take(words)
		if used != c.used || e != c.e {
			t.Errorf("%s: %d %d", c.s, used, e)
		}
		if e != api.OK && !Same(got, Expr{}) {
			t.Errorf("%s: %v beside an error", c.s, got)
		}
		if e == api.OK && !Formed(got) {
			t.Errorf("%s: %v isn't formed", c.s, got)
		}
	}
}

func TestTakeWrongWords(t *testing.T) {
	for _, w := range []lexer.Word{
		{}, {Kind: 5, Text: "a"}, {Kind: -1, Text: "a"}, {Kind: 1}, {Kind: 1, Text: "1a"}, {Kind: 1, Text: "é"}, {Kind: 1, Text: "FROM"}, {Kind: 1, Text: "abcdefghijklmnopq"}, {Kind: 2, N: -1}, {Kind: 3, Text: strings.Repeat("x", api.MaxText+1)}, {Kind: 4, Text: "IS"}, {Kind: 4, Text: ""}, {Kind: 3 + 1, Text: "NULL"},
	} {
		if got, used, e := Take([]lexer.Word{w}); !Same(got, Expr{}) || used != 0 || e != api.ErrSyntax {
			t.Error(w, got, used, e)
		}
		if got, used, e := Take([]lexer.Word{{Kind: 1, Text: "a"}, {Kind: 4, Text: "+"}, w}); !Same(got, Expr{}) || used != 2 || e != api.ErrSyntax {
			t.Error(w, got, used, e)
		}
		if got, used, e := Take([]lexer.Word{{Kind: 1, Text: "a"}, w}); !Same(got, col("a")) || used != 1 || e != api.OK {
			t.Error(w, got, used, e)
		}
	}
	// A text isn't a keyword, whatever it says.
	if got, used, e := Take([]lexer.Word{{Kind: 3, Text: "NULL"}, {Kind: 3, Text: "+"}}); !Same(got, text("NULL")) || used != 1 || e != api.OK {
		t.Error(got, used, e)
	}
}

func TestTakeManyWords(t *testing.T) {
	open := make([]lexer.Word, 100000)
	for i := range open {
		open[i] = lexer.Word{Kind: 4, Text: "("}
	}
	if _, used, e := Take(open); used != len(open) || e != api.ErrSyntax {
		t.Error(used, e)
	}
	minus := make([]lexer.Word, 100000)
	for i := range minus {
		minus[i] = lexer.Word{Kind: 4, Text: "-"}
	}
	if _, used, e := Take(append(minus, lexer.Word{Kind: 2})); used != 0 || e != api.ErrDeep {
		t.Error(used, e)
	}
}

func TestParseErrors(t *testing.T) {
	for s, want := range map[string]api.Errno{
		"": api.ErrSyntax, "a < b < c": api.ErrSyntax, "a b": api.ErrSyntax, "a;": api.ErrSyntax, "01": api.ErrSyntax, "a+a+a+a+a+a+a+a+a": api.ErrDeep, "a+a+a+a+a+a+a+a+a b": api.ErrDeep, "a +": api.ErrSyntax,
		strings.Repeat(" ", 4001): api.ErrLong, strings.Repeat("(", 601): api.ErrLong, strings.Repeat("a ", 601): api.ErrLong,
	} {
		if got, e := Parse(s); !Same(got, Expr{}) || e != want {
			t.Errorf("%.20s: %v %d", s, got, e)
		}
	}
}

func unformed() []Expr {
	v := api.Value{Kind: api.Int, N: 1}
	a := col("a")
	self := make([]Expr, 1)
	self[0] = Expr{Kind: 3, Op: "NOT", Parts: self}
	return []Expr{
		{}, {Kind: 7}, {Kind: -1}, num(-1), text(strings.Repeat("x", 101)), {Kind: 1, V: api.Value{Kind: 3}}, {Kind: 1, V: api.Value{N: 1}}, {Kind: 1, V: v, Op: "-"}, {Kind: 1, V: v, Column: "a"}, {Kind: 1, V: v, Table: "a"}, {Kind: 1, V: v, Parts: []Expr{a}},
		col(""), col("1"), col("SELECT"), col("abcdefghijklmnopq"), of("TABLE", "a"), of("t", ""), of("1", "a"), {Kind: 2, Column: "a", Op: "-"}, {Kind: 2, Column: "a", V: v}, {Kind: 2, Column: "a", Parts: []Expr{a}},
		un("", a), un("+", a), un("not", a), {Kind: 3, Op: "-"}, {Kind: 3, Op: "-", Parts: []Expr{a, a}}, {Kind: 3, Op: "-", V: v, Parts: []Expr{a}}, {Kind: 3, Op: "-", Table: "t", Parts: []Expr{a}}, un("-", Expr{}), un("-", num(-1)),
		bin("", a, a), bin("NOT", a, a), bin("/", a, a), bin("IS", a, a), {Kind: 4, Op: "+", Parts: []Expr{a}}, {Kind: 4, Op: "+", Parts: []Expr{a, a, a}}, {Kind: 4, Op: "+", Column: "a", Parts: []Expr{a, a}}, bin("+", Expr{}, a), bin("+", a, Expr{}),
		test("IS", a), test("NULL", a), {Kind: 5, Op: "IS NULL"}, {Kind: 5, Op: "IS NULL", Parts: []Expr{a, a}}, {Kind: 5, Op: "IS NULL", V: v, Parts: []Expr{a}},
		agg("AVG", a), agg("SUM"), agg("MIN"), agg("MAX"), agg("COUNT", a, a), agg("", a), {Kind: 6, Op: "COUNT", V: v}, {Kind: 6, Op: "COUNT", Column: "a"}, agg("SUM", Expr{}),
		nots(9), bin("+", a, nots(8)), agg("COUNT", nots(8)), self[0],
	}
}

func TestUnformed(t *testing.T) {
	for i, e := range unformed() {
		if Formed(e) {
			t.Error(i, "is formed")
		}
		if s, errno := Print(e); s != "" || errno != api.ErrArg {
			t.Error(i, s, errno)
		}
	}
}

func TestSame(t *testing.T) {
	l := []Expr{{}, num(1), num(2), null(), text("1"), col("a"), col("b"), of("t", "a"), of("u", "a"), un("-", col("a")), un("NOT", col("a")), un("-", col("b")), bin("+", col("a"), col("b")), bin("-", col("a"), col("b")), bin("+", col("a"), col("c")), bin("+", col("c"), col("b")), agg("COUNT"), agg("COUNT", col("a")), test("IS NULL", col("a")), {Kind: 5, Op: "COUNT"}, bin("+", un("-", num(1)), num(2)), bin("+", un("-", num(3)), num(2))}
	for i, a := range l {
		for k, b := range l {
			if Same(a, b) != (i == k) {
				t.Error(i, k)
			}
		}
	}
	if !Same(Expr{Parts: []Expr{}}, Expr{}) {
		t.Error("no parts: nil and empty differ")
	}
}

// random makes an expression at most so deep.
func random(r *rand.Rand, deep int) Expr {
	kind := 1 + r.Intn(6)
	if deep == 1 {
		kind = 1 + r.Intn(2)
	}
	pick := func(l ...string) string { return l[r.Intn(len(l))] }
	part := func() Expr { return random(r, deep-1) }
	switch kind {
	case 1:
		return []Expr{num(r.Int63n(5)), text(pick("", "'", "a b", "--")), null()}[r.Intn(3)]
	case 2:
		return of(pick("", "t"), pick("a", "b"))
	case 3:
		return un(pick("-", "-", "NOT"), part())
	case 5:
		return test(pick("IS NULL", "IS NOT NULL"), part())
	case 6:
		if r.Intn(3) == 0 {
			return agg("COUNT")
		}
		return agg(pick("COUNT", "SUM", "MIN", "MAX"), part())
	}
	return bin(pick("OR", "AND", "=", "<>", "<", "<=", ">", ">=", "+", "-", "*"), part(), part())
}

// without are the texts without one pair of brackets that stands around an operand.
func without(s string) []string {
	var open []int
	var out []string
	for i := range len(s) {
		switch s[i] {
		case '(':
			open = append(open, i)
		case ')':
			at := open[len(open)-1]
			open = open[:len(open)-1]
			if at == 0 || !strings.ContainsRune("TMNX", rune(s[at-1])) {
				out = append(out, s[:at]+s[at+1:i]+s[i+1:])
			}
		}
	}
	return out
}

func TestRandom(t *testing.T) {
	r := rand.New(rand.NewSource(6))
	for range 4000 {
		e := random(r, 1+r.Intn(6))
		s, errno := Print(e)
		if errno != api.OK {
			t.Fatal(e, errno)
		}
		back, errno := Parse(s)
		if !Same(back, e) || errno != api.OK {
			t.Fatal(s, back, errno)
		}
		for _, other := range without(s) {
			if back, errno := Parse(other); errno == api.OK && Same(back, e) {
				t.Fatal(s, "has brackets that it doesn't need:", other)
			}
		}
	}
}

func TestNothingIsShared(t *testing.T) {
	words, _ := lexer.Words("a + b")
	e, _, _ := Take(words)
	words[0].Text = "z"
	if !Same(e, bin("+", col("a"), col("b"))) {
		t.Error("the expression follows the words")
	}
}
