package expr

import (
	"strconv"
	"strings"

	"wainscot/api"
)

// Print answers an expression's text.
func Print(e Expr) (string, api.Errno) {
	if !Formed(e) {
		return "", api.ErrArg
	}
	var b strings.Builder
	write(&b, e)
	return b.String(), api.OK
}

func write(b *strings.Builder, e Expr) {
	switch e.Kind {
	case KindLiteral:
		b.WriteString(literalText(e.V))
	case KindColumn:
		if e.Table != "" {
			b.WriteString(e.Table + ".")
		}
		b.WriteString(e.Column)
	case KindUnary:
		writeUnary(b, e)
	case KindBinary:
		own := level(e)
		writePart(b, e.Parts[0], leftLevel(own))
		b.WriteString(" " + e.Op + " ")
		writePart(b, e.Parts[1], own+1)
	case KindTest:
		writePart(b, e.Parts[0], leftLevel(levelCompare))
		b.WriteString(" " + e.Op)
	case KindAggregate:
		writeAggregate(b, e)
	}
}

func literalText(v api.Value) string {
	switch v.Kind {
	case api.Int:
		return strconv.FormatInt(v.N, 10)
	case api.Text:
		return "'" + strings.ReplaceAll(v.S, "'", "''") + "'"
	}
	return "NULL"
}

func writeUnary(b *strings.Builder, e Expr) {
	if e.Op == "NOT" {
		b.WriteString("NOT ")
		writePart(b, e.Parts[0], levelNot)
		return
	}
	b.WriteString("-")
	// Another - right behind this one would begin a remark.
	writePart(b, e.Parts[0], levelWhole)
}

func writeAggregate(b *strings.Builder, e Expr) {
	b.WriteString(e.Op + "(")
	if len(e.Parts) == 0 {
		b.WriteString("*")
	}
	for _, p := range e.Parts {
		write(b, p)
	}
	b.WriteString(")")
}

// writePart writes an operand, in ( ) if it isn't so strong as it must be there.
func writePart(b *strings.Builder, e Expr, least int) {
	if level(e) >= least {
		write(b, e)
		return
	}
	b.WriteString("(")
	write(b, e)
	b.WriteString(")")
}

// level answers how strong a formed expression is.
func level(e Expr) int {
	switch e.Kind {
	case KindUnary:
		if e.Op == "NOT" {
			return levelNot
		}
		return levelMinus
	case KindBinary:
		return binaryLevel(e.Op)
	case KindTest:
		return levelCompare
	}
	return levelWhole
}
