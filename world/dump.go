package world

import (
	"strconv"
	"strings"

	"wainscot/api"
	"wainscot/catalog"
	"wainscot/delta"
	"wainscot/rows"
)

// Dump answers all that the engine has, as a text; where its pages lie is no part of that.
func (w *World) Dump() (string, api.Errno) {
	if w == nil || w.d == nil {
		return "", api.ErrArg
	}
	if w.e == nil {
		return "", api.ErrDisk
	}
	var b strings.Builder
	for _, o := range w.e.Objects() {
		b.WriteString(header(o) + "\n")
		lines, errno := w.lines(o)
		if errno != api.OK {
			return "", errno
		}
		for _, line := range lines {
			b.WriteString("  " + line + "\n")
		}
	}
	return b.String(), api.OK
}

// lines answers what an object has: rows or entries.
func (w *World) lines(o catalog.Object) ([]string, api.Errno) {
	switch o.Kind {
	case catalog.KindTable:
		list, errno := w.e.Rows(o.Name)
		return each(list, row), errno
	case catalog.KindView:
		list, errno := w.e.Entries(o.Name)
		return each(list, entry), errno
	}
	return nil, api.OK
}

func each[T any](list []T, one func(T) string) []string {
	out := make([]string, len(list))
	for i, x := range list {
		out[i] = one(x)
	}
	return out
}

// header tells all of an object but its root.
func header(o catalog.Object) string {
	columns := strings.Join(each(o.Columns, column), ", ")
	switch o.Kind {
	case catalog.KindTable:
		return "table " + o.Name + " (" + columns + ")"
	case catalog.KindView:
		return "view " + o.Name + " (" + columns + ") of " + strings.Join(o.Uses, ", ") + " as " + strconv.Quote(o.Text)
	}
	return "index " + o.Name + when(o.Unique, " unique") + " on " + o.On + " (" + strings.Join(each(o.Keys, strconv.Itoa), ", ") + ")"
}

func column(c api.Column) string {
	return c.Name + " " + strconv.Itoa(c.Kind) + when(c.NotNull, " not null") + when(c.Unique, " unique")
}

func when(b bool, words string) string {
	if b {
		return words
	}
	return ""
}

func row(r rows.Row) string { return number(r.ID) + ": " + values(r.Values) }

func entry(e delta.Entry) string {
	return values(e.Key) + " x " + number(e.N) + " " + strings.Join(each(e.Sums, sum), " ")
}

func sum(s delta.Sum) string { return "(" + number(s.N) + ", " + number(s.Total) + ")" }

func number(n int64) string { return strconv.FormatInt(n, 10) }

// values writes each value so that no other one is written alike.
func values(list []api.Value) string {
	return strings.Join(each(list, func(v api.Value) string {
		switch v.Kind {
		case api.Int:
			return number(v.N)
		case api.Text:
			return strconv.Quote(v.S)
		}
		return "NULL"
	}), ", ")
}
