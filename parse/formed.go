package parse

import (
	"wainscot/api"
	"wainscot/expr"
	"wainscot/lexer"
)

// Formed tells whether s is a statement that some text says.
func Formed(s Statement) bool {
	return !long(s) && shaped(s) && Same(rest(s), Statement{Kind: s.Kind})
}

// rest is the statement without what its kind has.
func rest(s Statement) Statement {
	if s.Kind < KindQuery {
		s.Name = ""
	}
	switch s.Kind {
	case KindTable:
		s.Columns = nil
	case KindIndex:
		s.On, s.Keys, s.Unique = "", nil, false
	case KindView, KindQuery:
		s.Query = Query{}
	case KindInsert:
		s.Rows = nil
	case KindUpdate:
		s.Sets, s.Where = nil, nil
	case KindDelete:
		s.Where = nil
	}
	return s
}

// shaped tells whether what the kind has is right, but for how many there may be at most.
func shaped(s Statement) bool {
	if s.Kind < KindTable || s.Kind > KindRollback || s.Kind < KindQuery && !lexer.Name(s.Name) {
		return false
	}
	switch s.Kind {
	case KindTable:
		return some(s.Columns, columnFormed)
	case KindIndex:
		return lexer.Name(s.On) && some(s.Keys, lexer.Name)
	case KindView, KindQuery:
		return queryFormed(s.Query)
	case KindInsert:
		return some(s.Rows, rowFormed)
	case KindUpdate:
		return some(s.Sets, assignFormed) && whereFormed(s.Where)
	case KindDelete:
		return whereFormed(s.Where)
	}
	return true
}

// all and some tell whether each one is right; some: and there is one.
func all[T any](list []T, right func(T) bool) bool {
	for _, x := range list {
		if !right(x) {
			return false
		}
	}
	return true
}

func some[T any](list []T, right func(T) bool) bool { return len(list) > 0 && all(list, right) }

func columnFormed(c api.Column) bool {
	return lexer.Name(c.Name) && (c.Kind == api.Int || c.Kind == api.Text)
}

func rowFormed(row []expr.Expr) bool { return some(row, expr.Formed) }

func assignFormed(a Assign) bool { return lexer.Name(a.Column) && expr.Formed(a.E) }

func whereFormed(where []expr.Expr) bool { return len(where) <= 1 && all(where, expr.Formed) }

func queryFormed(q Query) bool {
	items := some(q.Items, itemFormed)
	if q.Star {
		items = len(q.Items) == 0
	}
	return items && sourcesFormed(q.Sources) && whereFormed(q.Where) && all(q.Group, expr.Formed) &&
		all(q.Order, orderFormed) && q.Limit >= NoLimit
}

func itemFormed(i Item) bool { return (i.Name == "" || lexer.Name(i.Name)) && expr.Formed(i.E) }

func orderFormed(o Order) bool { return expr.Formed(o.E) }

func sourcesFormed(list []Source) bool {
	if !some(list, sourceNamed) || !expr.Same(list[0].On, expr.Expr{}) {
		return false
	}
	return all(list[1:], func(s Source) bool { return expr.Formed(s.On) })
}

func sourceNamed(s Source) bool { return lexer.Name(s.Table) && lexer.Name(s.Name) }

// long tells whether a statement has more of something than it may.
func long(s Statement) bool {
	for _, row := range s.Rows {
		if len(row) > api.MaxColumns {
			return true
		}
	}
	q := s.Query
	return len(s.Columns) > api.MaxColumns || len(s.Keys) > api.MaxColumns || len(q.Items) > api.MaxItems ||
		len(q.Group) > api.MaxItems || len(q.Order) > api.MaxItems || len(q.Sources) > api.MaxSources ||
		len(s.Rows) > api.MaxTuples || len(s.Sets) > api.MaxColumns
}
