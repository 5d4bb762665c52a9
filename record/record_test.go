package record

import (
	"bytes"
	"math"
	"slices"
	"strings"
	"testing"

	"wainscot/api"
)

func num(n int64) api.Value { return api.Value{Kind: api.Int, N: n} }

func text(s string) api.Value { return api.Value{Kind: api.Text, S: s} }

func TestBytes(t *testing.T) {
	long := strings.Repeat("x", api.MaxText)
	for _, c := range []struct {
		row   []api.Value
		bytes string
	}{
		{nil, "\x00"},
		{[]api.Value{{}}, "\x01\x00"},
		{[]api.Value{num(1), text("a"), {}}, "\x03\x01\x02\x02\x01\x61\x00"},
		{[]api.Value{num(0), num(-1), num(64)}, "\x03\x01\x00\x01\x01\x01\x81\x00"},
		{[]api.Value{num(math.MinInt64)}, "\x01\x01\x81\xff\xff\xff\xff\xff\xff\xff\xff\x7f"},
		{[]api.Value{text("")}, "\x01\x02\x00"},
		{[]api.Value{text("\x00\xff'"), text("b")}, "\x02\x02\x03\x00\xff'\x02\x01b"},
		{[]api.Value{text(long)}, "\x01\x02\x64" + long},
		{make([]api.Value, 130), "\x81\x02" + strings.Repeat("\x00", 130)},
	} {
		if b, e := Encode(c.row); string(b) != c.bytes || e != api.OK {
			t.Errorf("%v: %x %d", c.row, b, e)
		}
		if row, e := Decode([]byte(c.bytes)); !slices.Equal(row, c.row) || e != api.OK {
			t.Errorf("%x: %v %d", c.bytes, row, e)
		}
	}
}

func TestEncodeBounds(t *testing.T) {
	// One byte of the count, and two of each text's mark and length.
	fits := []api.Value{text(strings.Repeat("a", 100)), text(strings.Repeat("b", api.MaxRecord-105))}
	if b, e := Encode(fits); len(b) != api.MaxRecord || e != api.OK {
		t.Error(len(b), e)
	}
	large := []api.Value{fits[0], text(fits[1].S + "b")}
	if b, e := Encode(large); len(b) != 0 || e != api.ErrLarge {
		t.Error(len(b), e)
	}
	if b, e := Encode(make([]api.Value, api.MaxRecord)); len(b) != 0 || e != api.ErrLarge {
		t.Error(len(b), e)
	}
	for _, bad := range []api.Value{{Kind: 3}, {N: 1}, {Kind: api.Int, S: "a"}, text(strings.Repeat("x", api.MaxText+1))} {
		if b, e := Encode([]api.Value{num(1), bad}); len(b) != 0 || e != api.ErrArg {
			t.Error(bad, b, e)
		}
		if b, e := Encode(append(slices.Clone(large), bad)); len(b) != 0 || e != api.ErrArg {
			t.Error(bad, "behind too much", b, e)
		}
	}
}

func TestDecodeLongerThanARecord(t *testing.T) {
	part := "\x02\x64" + strings.Repeat("x", 100)
	row, e := Decode([]byte("\x02" + part + part))
	if want := []api.Value{text(strings.Repeat("x", 100)), text(strings.Repeat("x", 100))}; !slices.Equal(row, want) || e != api.OK {
		t.Error(row, e)
	}
}

func TestDecodeWrong(t *testing.T) {
	for _, s := range []string{
		"", "\x80", "\x81", "\x01", "\x02\x00", "\x02\x02\x01a", "\x03\x01\x02\x00", "\x00\x00", "\x01\x00\x00", "\x01\x03", "\x01\xff",
		"\x01\x01", "\x01\x01\x80\x00", "\x01\x01\x81", "\x01\x02", "\x01\x02\x01", "\x01\x02\x80\x00", "\x01\x02\x02a",
		"\x01\x02\x65" + strings.Repeat("x", 101), "\x81\xff\xff\xff\xff\xff\xff\xff\xff\x7f", "\xff\xff\xff\xff\x7f\x00",
		"\x01\x02\x81\xff\xff\xff\xff\xff\xff\xff\xff\x7fa", "\x80\x01\x00",
	} {
		if row, e := Decode([]byte(s)); len(row) != 0 || e != api.ErrForm {
			t.Errorf("%x: %v %d", s, row, e)
		}
	}
}

func TestNothingIsShared(t *testing.T) {
	b := []byte("\x01\x02\x01a")
	row, _ := Decode(b)
	b[3] = 'z'
	if row[0].S != "a" {
		t.Error("the row follows the bytes")
	}
	if !bytes.Equal(b, []byte("\x01\x02\x01z")) {
		t.Error("what was handed in is changed")
	}
}
