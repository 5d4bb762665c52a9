package catalog

import (
	"bytes"
	"slices"

	"wainscot/api"
	"wainscot/varint"
)

// pieceSize is how many bytes each piece has, but the last one.
const pieceSize = 100

// Encode answers an object's pieces: its bytes, cut.
func Encode(o Object) ([][]byte, api.Errno) {
	if !Formed(o) {
		return nil, api.ErrArg
	}
	var pieces [][]byte
	for piece := range slices.Chunk(write(o), pieceSize) {
		pieces = append(pieces, slices.Clone(piece))
	}
	return pieces, api.OK
}

// Decode answers the object whose pieces they are.
func Decode(pieces [][]byte) (Object, api.Errno) {
	r := reader{b: bytes.Join(pieces, nil)}
	o := r.object()
	// Only what would be written so again is right; that asks for all of it, and nothing behind it.
	again, e := Encode(o)
	if e != api.OK || !slices.EqualFunc(again, pieces, bytes.Equal) {
		return Object{}, api.ErrForm
	}
	return o, api.OK
}

func appendNumber(b []byte, n int) []byte { return varint.Append(b, uint64(n)) }

func appendText(b []byte, s string) []byte { return append(appendNumber(b, len(s)), s...) }

func appendTruth(b []byte, truth bool) []byte {
	if truth {
		return append(b, 1)
	}
	return append(b, 0)
}

func write(o Object) []byte {
	b := appendText(appendNumber(nil, o.Kind), o.Name)
	b = appendText(b, o.On)
	b = appendNumber(b, len(o.Columns))
	for _, c := range o.Columns {
		b = appendNumber(appendText(b, c.Name), c.Kind)
		b = appendTruth(appendTruth(b, c.NotNull), c.Unique)
	}
	b = appendNumber(b, len(o.Keys))
	for _, k := range o.Keys {
		b = appendNumber(b, k)
	}
	b = appendText(appendTruth(b, o.Unique), o.Text)
	b = appendNumber(b, len(o.Uses))
	for _, name := range o.Uses {
		b = appendText(b, name)
	}
	return appendNumber(b, o.Root)
}

// reader takes what b begins with; what isn't there is zero.
type reader struct {
	b []byte
}

func (r *reader) number() int {
	n, used, e := varint.Take(r.b)
	if e != api.OK {
		r.b = nil
		return 0
	}
	r.b = r.b[used:]
	return int(n)
}

func (r *reader) text() string {
	n := r.number()
	if n < 0 || n > len(r.b) {
		r.b = nil
		return ""
	}
	s := string(r.b[:n])
	r.b = r.b[n:]
	return s
}

func (r *reader) truth() bool { return r.number() == 1 }

// times calls take as often as a number says, but only while there are bytes, of which each call takes some.
func (r *reader) times(take func()) {
	for i, n := 0, r.number(); i < n && len(r.b) > 0; i++ {
		take()
	}
}

func (r *reader) object() Object {
	o := Object{Kind: r.number(), Name: r.text(), On: r.text()}
	r.times(func() {
		o.Columns = append(o.Columns, api.Column{Name: r.text(), Kind: r.number(), NotNull: r.truth(), Unique: r.truth()})
	})
	r.times(func() { o.Keys = append(o.Keys, r.number()) })
	o.Unique, o.Text = r.truth(), r.text()
	r.times(func() { o.Uses = append(o.Uses, r.text()) })
	o.Root = r.number()
	return o
}
