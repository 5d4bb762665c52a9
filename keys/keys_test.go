package keys

import (
	"bytes"
	"math"
	"slices"
	"strings"
	"testing"

	"wainscot/api"
	"wainscot/value"
)

func num(n int64) api.Value { return api.Value{Kind: api.Int, N: n} }

func text(s string) api.Value { return api.Value{Kind: api.Text, S: s} }

func values() []api.Value {
	return []api.Value{
		{}, num(math.MinInt64), num(-256), num(-1), num(0), num(1), num(255), num(256), num(math.MaxInt64),
		text(""), text("\x00"), text("\x00\x00"), text("\x00\x01"), text("\x00\xff"), text("\x01"), text("a"), text("a\x00"), text("a\x00b"), text("a\x01"), text("ab"), text("\xff"), text("\xff\xff"),
		text(strings.Repeat("\x00", api.MaxText)),
	}
}

// several are rows of none to two values.
func several() [][]api.Value {
	l := [][]api.Value{nil}
	for _, a := range values() {
		l = append(l, []api.Value{a})
		for _, b := range values() {
			l = append(l, []api.Value{a, b})
		}
	}
	return l
}

func TestBytes(t *testing.T) {
	for _, c := range []struct {
		row []api.Value
		key string
	}{
		{nil, ""},
		{[]api.Value{{}}, "\x05"},
		{[]api.Value{num(1)}, "\x10\x80\x00\x00\x00\x00\x00\x00\x01"},
		{[]api.Value{num(-1)}, "\x10\x7f\xff\xff\xff\xff\xff\xff\xff"},
		{[]api.Value{num(math.MinInt64), {}}, "\x10\x00\x00\x00\x00\x00\x00\x00\x00\x05"},
		{[]api.Value{num(0x0102030405060708)}, "\x10\x81\x02\x03\x04\x05\x06\x07\x08"},
		{[]api.Value{text("a")}, "\x20a\x00\x00"},
		{[]api.Value{text(""), text("b\x00c\xff")}, "\x20\x00\x00\x20b\x00\xffc\xff\x00\x00"},
	} {
		if key, e := Key(c.row); string(key) != c.key || e != api.OK {
			t.Errorf("%v: %x %d", c.row, key, e)
		}
		if row, e := Row([]byte(c.key)); !slices.Equal(row, c.row) || e != api.OK {
			t.Errorf("%x: %v %d", c.key, row, e)
		}
	}
}

func TestOrderAndBack(t *testing.T) {
	l := several()
	all := make([][]byte, len(l))
	for i, row := range l {
		key, e := Key(row)
		if e != api.OK {
			t.Fatal(row, e)
		}
		all[i] = key
		if back, e := Row(key); !slices.Equal(back, row) || e != api.OK {
			t.Error(row, back, e)
		}
		if len(row) > 1 {
			if head, _ := Key(row[:1]); !bytes.HasPrefix(key, head) {
				t.Error(row, "doesn't begin with its beginning's key")
			}
		}
	}
	for i, a := range all {
		for k, b := range all {
			if bytes.Compare(a, b) != value.Rows(l[i], l[k]) {
				t.Fatal(l[i], l[k])
			}
		}
	}
}

func TestKeyWrong(t *testing.T) {
	for _, bad := range []api.Value{{Kind: 3}, {Kind: -1}, {N: 1}, {Kind: api.Int, S: "a"}, {Kind: api.Text, N: 1}, text(strings.Repeat("x", 101))} {
		if key, e := Key([]api.Value{num(1), bad}); len(key) != 0 || e != api.ErrArg {
			t.Errorf("%v: %x %d", bad, key, e)
		}
	}
}

func TestRowWrong(t *testing.T) {
	for _, s := range []string{
		"\x00", "\x01", "\x06", "\xff", "\x05\x00", "\x10", "\x10\x80\x00\x00\x00\x00\x00\x00", "\x20", "\x20a", "\x20a\x00", "\x20\x00\x01", "\x20\x00\xfe\x00\x00",
		"\x20a\x00\xff", "\x20a\x00\x00\x00", "\x20" + strings.Repeat("x", 101) + "\x00\x00", "\x20" + strings.Repeat("\x00\xff", 101) + "\x00\x00",
		"\x10\x80\x00\x00\x00\x00\x00\x00\x01\x10",
	} {
		if row, e := Row([]byte(s)); len(row) != 0 || e != api.ErrForm {
			t.Errorf("%x: %v %d", s, row, e)
		}
	}
}

func TestAfter(t *testing.T) {
	for _, c := range []struct{ key, want string }{
		{"", ""}, {"\xff", ""}, {"\xff\xff\xff", ""}, {"a", "b"}, {"\x00", "\x01"}, {"a\xff", "b"}, {"a\xff\xff", "b"}, {"a\xffb", "a\xffc"}, {"\xfe\xff", "\xff"}, {"a\x00", "a\x01"}, {"\xff\x00", "\xff\x01"},
	} {
		key := []byte(c.key)
		if got := After(key); string(got) != c.want {
			t.Errorf("%x: %x", c.key, got)
		}
		if string(key) != c.key {
			t.Errorf("%x is changed", c.key)
		}
	}
	room := []byte("abcd")
	after := append(After(room[:1]), "zzz"...)
	if string(after) != "bzzz" || string(room) != "abcd" {
		t.Errorf("%s %s", after, room)
	}
}

func TestAfterBoundsWhatBeginsWithIt(t *testing.T) {
	for _, row := range several() {
		if len(row) != 2 {
			continue
		}
		head, _ := Key(row[:1])
		key, _ := Key(row)
		if bytes.Compare(key, After(head)) >= 0 {
			t.Errorf("%x isn't below %x", key, After(head))
		}
	}
}
