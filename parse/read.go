package parse

import (
	"wainscot/api"
	"wainscot/expr"
	"wainscot/lexer"
)

// Read answers the statement that a text says.
func Read(text string) (Statement, api.Errno) {
	words, e := lexer.Words(text)
	if e != api.OK {
		return Statement{}, e
	}
	r := reader{words: words}
	s := r.statement()
	r.sign(";")
	if r.at < len(words) {
		r.fail(api.ErrSyntax)
	}
	if r.met != api.OK {
		return Statement{}, r.met
	}
	if long(s) {
		return Statement{}, api.ErrLong
	}
	return s, api.OK
}

// reader goes through words. Once it has met an error it stands still: it takes nothing any more.
type reader struct {
	words []lexer.Word
	at    int
	met   api.Errno
}

func (r *reader) fail(e api.Errno) {
	if r.met == api.OK {
		r.met = e
	}
}

// takes goes over the next word, if it is that one.
func (r *reader) takes(kind int, text string) bool {
	if r.met != api.OK || r.at == len(r.words) || r.words[r.at].Kind != kind || r.words[r.at].Text != text {
		return false
	}
	r.at++
	return true
}

func (r *reader) sign(s string) bool { return r.takes(lexer.KindSign, s) }

func (r *reader) keyword(s string) bool { return r.takes(lexer.KindName, s) }

// must goes over keywords that have to stand there.
func (r *reader) must(keywords ...string) {
	for _, k := range keywords {
		if !r.keyword(k) {
			r.fail(api.ErrSyntax)
		}
	}
}

func (r *reader) mustSign(s string) {
	if !r.sign(s) {
		r.fail(api.ErrSyntax)
	}
}

func (r *reader) name() string {
	if r.met != api.OK || r.at == len(r.words) || r.words[r.at].Kind != lexer.KindName || !lexer.Name(r.words[r.at].Text) {
		r.fail(api.ErrSyntax)
		return ""
	}
	r.at++
	return r.words[r.at-1].Text
}

func (r *reader) number() int64 {
	if r.met != api.OK || r.at == len(r.words) || r.words[r.at].Kind != lexer.KindNumber {
		r.fail(api.ErrSyntax)
		return 0
	}
	r.at++
	return r.words[r.at-1].N
}

func (r *reader) expr() expr.Expr {
	if r.met != api.OK {
		return expr.Expr{}
	}
	e, used, errno := expr.Take(r.words[r.at:])
	if errno != api.OK {
		r.fail(errno)
		return expr.Expr{}
	}
	r.at += used
	return e
}

// list reads what one reads, with commas between.
func list[T any](r *reader, one func() T) []T {
	l := []T{one()}
	for r.sign(",") {
		l = append(l, one())
	}
	return l
}

// inBrackets reads a list within ( ).
func inBrackets[T any](r *reader, one func() T) []T {
	r.mustSign("(")
	l := list(r, one)
	r.mustSign(")")
	return l
}

func (r *reader) statement() Statement {
	switch {
	case r.keyword("CREATE"):
		return r.create()
	case r.keyword("DROP"):
		return r.drop()
	case r.keyword("INSERT"):
		r.must("INTO")
		s := Statement{Kind: KindInsert, Name: r.name()}
		r.must("VALUES")
		s.Rows = list(r, func() []expr.Expr { return inBrackets(r, r.expr) })
		return s
	case r.keyword("UPDATE"):
		s := Statement{Kind: KindUpdate, Name: r.name()}
		r.must("SET")
		s.Sets = list(r, r.assign)
		s.Where = r.where()
		return s
	case r.keyword("DELETE"):
		r.must("FROM")
		return Statement{Kind: KindDelete, Name: r.name(), Where: r.where()}
	case r.keyword("SELECT"):
		return Statement{Kind: KindQuery, Query: r.query()}
	case r.keyword("BEGIN"):
		return Statement{Kind: KindBegin}
	case r.keyword("COMMIT"):
		return Statement{Kind: KindCommit}
	case r.keyword("ROLLBACK"):
		return Statement{Kind: KindRollback}
	}
	r.fail(api.ErrSyntax)
	return Statement{}
}

func (r *reader) create() Statement {
	switch {
	case r.keyword("TABLE"):
		return Statement{Kind: KindTable, Name: r.name(), Columns: inBrackets(r, r.column)}
	case r.keyword("MATERIALIZED"):
		r.must("VIEW")
		s := Statement{Kind: KindView, Name: r.name()}
		r.must("AS", "SELECT")
		s.Query = r.query()
		return s
	}
	s := Statement{Kind: KindIndex, Unique: r.keyword("UNIQUE")}
	r.must("INDEX")
	s.Name = r.name()
	r.must("ON")
	s.On = r.name()
	s.Keys = inBrackets(r, r.name)
	return s
}

func (r *reader) drop() Statement {
	switch {
	case r.keyword("TABLE"):
		return Statement{Kind: KindDropTable, Name: r.name()}
	case r.keyword("INDEX"):
		return Statement{Kind: KindDropIndex, Name: r.name()}
	}
	r.must("VIEW")
	return Statement{Kind: KindDropView, Name: r.name()}
}

func (r *reader) column() api.Column {
	c := api.Column{Name: r.name(), Kind: api.Int}
	if !r.keyword("INT") {
		r.must("TEXT")
		c.Kind = api.Text
	}
	if r.keyword("NOT") {
		r.must("NULL")
		c.NotNull = true
	}
	c.Unique = r.keyword("UNIQUE")
	return c
}

func (r *reader) assign() Assign {
	a := Assign{Column: r.name()}
	r.mustSign("=")
	a.E = r.expr()
	return a
}

func (r *reader) where() []expr.Expr {
	if !r.keyword("WHERE") {
		return nil
	}
	return []expr.Expr{r.expr()}
}

// query reads what stands behind SELECT.
func (r *reader) query() Query {
	q := Query{Distinct: r.keyword("DISTINCT"), Star: r.sign("*"), Limit: NoLimit}
	if !q.Star {
		q.Items = list(r, r.item)
	}
	r.must("FROM")
	q.Sources = r.sources()
	q.Where = r.where()
	if r.keyword("GROUP") {
		r.must("BY")
		q.Group = list(r, r.expr)
	}
	if r.keyword("ORDER") {
		r.must("BY")
		q.Order = list(r, r.order)
	}
	if r.keyword("LIMIT") {
		q.Limit = r.number()
	}
	return q
}

func (r *reader) item() Item {
	i := Item{E: r.expr()}
	if r.keyword("AS") {
		i.Name = r.name()
	}
	return i
}

func (r *reader) sources() []Source {
	l := []Source{r.source()}
	for r.keyword("JOIN") {
		s := r.source()
		r.must("ON")
		s.On = r.expr()
		l = append(l, s)
	}
	return l
}

func (r *reader) source() Source {
	s := Source{Table: r.name()}
	s.Name = s.Table
	if r.keyword("AS") {
		s.Name = r.name()
	}
	return s
}

func (r *reader) order() Order {
	o := Order{E: r.expr(), Desc: r.keyword("DESC")}
	if !o.Desc {
		r.keyword("ASC")
	}
	return o
}
