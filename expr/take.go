package expr

import (
	"wainscot/api"
	"wainscot/lexer"
)

// Take reads the expression that words begin with, as long as may be, and how many of them it is.
func Take(words []lexer.Word) (Expr, int, api.Errno) {
	t := taker{words: words, least: levelOr}
	p, ok := t.take()
	if !ok {
		return Expr{}, t.at, api.ErrSyntax
	}
	if p.deep > api.MaxDeep {
		return Expr{}, 0, api.ErrDeep
	}
	return p.e, t.at, api.OK
}

// Parse reads a text that is an expression.
func Parse(s string) (Expr, api.Errno) {
	words, e := lexer.Words(s)
	if e != api.OK {
		return Expr{}, e
	}
	read, used, e := Take(words)
	if e != api.OK {
		return Expr{}, e
	}
	if used < len(words) {
		return Expr{}, api.ErrSyntax
	}
	return read, api.OK
}

// part is an expression that was read, how strong and how deep it is. One that is too deep isn't built.
type part struct {
	e     Expr
	level int
	deep  int
}

func build(e Expr, level int, parts ...part) part {
	deep := 0
	for _, p := range parts {
		deep = max(deep, p.deep)
	}
	out := part{level: level, deep: deep + 1}
	if out.deep > api.MaxDeep {
		return out
	}
	for _, p := range parts {
		e.Parts = append(e.Parts, p.e)
	}
	out.e = e
	return out
}

// pending is what waits for its last operand: e is it without parts, left its first one, if it has two. Brackets that
// are to be closed wait, too. least is how strong operands must be where it stands itself.
type pending struct {
	e      Expr
	level  int
	left   []part
	closes bool
	least  int
}

// taker goes through words; where it can't go on, at is the number of the word that is in the way. What waits lies in a
// list of its own, as words may be nested deeper than calls should be.
type taker struct {
	words []lexer.Word
	at    int
	least int
	open  []pending
}

func (t *taker) take() (part, bool) {
	left, ok := t.operand()
	for ok {
		op, level := t.operator()
		switch {
		case level >= t.least && left.level >= leftLevel(level) && op == "IS":
			t.at++
			left, ok = t.test(left)
		case level >= t.least && left.level >= leftLevel(level):
			t.at++
			t.wait(pending{e: Expr{Kind: KindBinary, Op: op}, level: level, left: []part{left}}, level+1)
			left, ok = t.operand()
		case len(t.open) == 0:
			return left, true
		default:
			left, ok = t.close(left)
		}
	}
	return part{}, false
}

// wait lays p aside until its operand, which is at least so strong, is read.
func (t *taker) wait(p pending, least int) {
	p.least, t.least = t.least, least
	t.open = append(t.open, p)
}

// close gives its last operand to what waits for it.
func (t *taker) close(last part) (part, bool) {
	p := t.open[len(t.open)-1]
	t.open = t.open[:len(t.open)-1]
	t.least = p.least
	if p.closes && !t.sign(")") {
		return part{}, false
	}
	if p.e.Kind == 0 {
		last.level = levelWhole
		return last, true
	}
	return build(p.e, p.level, append(p.left, last)...), true
}

// takes goes over the next word, if it is that one.
func (t *taker) takes(kind int, text string) bool {
	if t.at == len(t.words) || t.words[t.at].Kind != kind || t.words[t.at].Text != text {
		return false
	}
	t.at++
	return true
}

func (t *taker) sign(s string) bool { return t.takes(lexer.KindSign, s) }

func (t *taker) keyword(s string) bool { return t.takes(lexer.KindName, s) }

// operator answers the operator that stands behind an operand, and how strongly it binds (0: there is none).
func (t *taker) operator() (string, int) {
	if t.at == len(t.words) {
		return "", 0
	}
	w := t.words[t.at]
	switch w.Kind {
	case lexer.KindName:
		if w.Text == "IS" {
			return w.Text, levelCompare
		}
		if w.Text == "OR" || w.Text == "AND" {
			return w.Text, binaryLevel(w.Text)
		}
	case lexer.KindSign:
		return w.Text, binaryLevel(w.Text)
	}
	return "", 0
}

// test reads what stands behind IS.
func (t *taker) test(left part) (part, bool) {
	op := OpNull
	if t.keyword("NOT") {
		op = OpSome
	}
	if !t.keyword("NULL") {
		return part{}, false
	}
	return build(Expr{Kind: KindTest, Op: op}, levelCompare, left), true
}

// operand reads an operand up to where an operator may stand.
func (t *taker) operand() (part, bool) {
	for {
		switch {
		case t.least <= levelNot && t.keyword("NOT"):
			t.wait(pending{e: Expr{Kind: KindUnary, Op: "NOT"}, level: levelNot}, levelNot)
		case t.sign("-"):
			t.wait(pending{e: Expr{Kind: KindUnary, Op: "-"}, level: levelMinus}, levelMinus)
		case t.sign("("):
			t.wait(pending{closes: true}, levelOr)
		default:
			p, whole, ok := t.word()
			if whole || !ok {
				return p, ok
			}
		}
	}
}

// word reads an operand that begins with a word of its own; an aggregate's isn't whole before its own operand is read.
func (t *taker) word() (p part, whole, ok bool) {
	if t.at == len(t.words) {
		return part{}, false, false
	}
	w := t.words[t.at]
	switch {
	case w.Kind == lexer.KindNumber && w.N >= 0:
		t.at++
		return literal(api.Value{Kind: api.Int, N: w.N}), true, true
	case w.Kind == lexer.KindText && len(w.Text) <= api.MaxText:
		t.at++
		return literal(api.Value{Kind: api.Text, S: w.Text}), true, true
	case t.keyword("NULL"):
		return literal(api.Value{}), true, true
	case w.Kind == lexer.KindName && aggregate(w.Text):
		t.at++
		return t.aggregate(w.Text)
	}
	p, ok = t.column()
	return p, true, ok
}

func literal(v api.Value) part { return build(Expr{Kind: KindLiteral, V: v}, levelWhole) }

// aggregate reads what stands behind an aggregate's word: all of it, or its bracket.
func (t *taker) aggregate(op string) (p part, whole, ok bool) {
	if !t.sign("(") {
		return part{}, false, false
	}
	e := Expr{Kind: KindAggregate, Op: op}
	if op == "COUNT" && t.sign("*") {
		return build(e, levelWhole), true, t.sign(")")
	}
	t.wait(pending{e: e, level: levelWhole, closes: true}, levelOr)
	return part{}, false, true
}

func (t *taker) column() (part, bool) {
	first, ok := t.name()
	if !ok {
		return part{}, false
	}
	if !t.sign(".") {
		return build(Expr{Kind: KindColumn, Column: first}, levelWhole), true
	}
	second, ok := t.name()
	return build(Expr{Kind: KindColumn, Table: first, Column: second}, levelWhole), ok
}

func (t *taker) name() (string, bool) {
	if t.at == len(t.words) || t.words[t.at].Kind != lexer.KindName || !lexer.Name(t.words[t.at].Text) {
		return "", false
	}
	t.at++
	return t.words[t.at-1].Text, true
}
