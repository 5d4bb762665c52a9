package varint

import (
	"bytes"
	"math"
	"math/big"
	"slices"
	"testing"

	"wainscot/api"
)

// numbers are those around each length's bounds.
func numbers() []uint64 {
	l := []uint64{0, 1, 2, 3, 63, 64, 100, 255, 256, 300, math.MaxUint64, math.MaxUint64 - 1}
	for i := 7; i < 64; i += 7 {
		l = append(l, 1<<i-2, 1<<i-1, 1<<i, 1<<i+1)
	}
	return append(l, 1<<63-1, 1<<63, 1<<63+1)
}

// written is a number's bytes, by division.
func written(n *big.Int) []byte {
	n = new(big.Int).Set(n)
	var b []byte
	for {
		q, r := new(big.Int).DivMod(n, big.NewInt(128), new(big.Int))
		digit := byte(r.Int64())
		if len(b) > 0 {
			digit |= 0x80
		}
		b = append(b, digit)
		if q.Sign() == 0 {
			slices.Reverse(b)
			return b
		}
		n = q
	}
}

func TestAppend(t *testing.T) {
	for _, n := range numbers() {
		want := written(new(big.Int).SetUint64(n))
		if got := Append(nil, n); !bytes.Equal(got, want) {
			t.Errorf("%d: %x", n, got)
		}
		if got := Append([]byte{9, 8}, n); !bytes.Equal(got, append([]byte{9, 8}, want...)) {
			t.Errorf("%d behind others: %x", n, got)
		}
		got, used, e := Take(append(want, 0x80, 7))
		if got != n || used != len(want) || e != api.OK {
			t.Error(n, got, used, e)
		}
	}
	for _, c := range []struct {
		n    uint64
		want []byte
	}{{0, []byte{0}}, {127, []byte{0x7f}}, {128, []byte{0x81, 0}}, {math.MaxUint64, []byte{0x81, 0xff, 0xff, 0xff, 0xff, 0xff, 0xff, 0xff, 0xff, 0x7f}}} {
		if got := Append(nil, c.n); !bytes.Equal(got, c.want) {
			t.Errorf("%d: %x", c.n, got)
		}
	}
}

func TestSigned(t *testing.T) {
	l := []int64{0, 1, -1, 2, -2, 63, -63, 64, -64, 65, -65, math.MaxInt64, math.MinInt64, math.MinInt64 + 1}
	for i := range 63 {
		l = append(l, 1<<i, -1<<i, 1<<i-1, -1<<i-1, -1<<i+1)
	}
	for _, n := range l {
		twice := new(big.Int).Mul(big.NewInt(2), big.NewInt(n))
		if n < 0 {
			twice.Neg(twice).Sub(twice, big.NewInt(1))
		}
		want := written(twice)
		if got := Signed([]byte{5}, n); !bytes.Equal(got, append([]byte{5}, want...)) {
			t.Errorf("%d: %x", n, got)
		}
		got, used, e := TakeSigned(append(want, 3))
		if got != n || used != len(want) || e != api.OK {
			t.Error(n, got, used, e)
		}
	}
	for n, want := range map[int64]byte{0: 0, -1: 1, 1: 2, -2: 3, 2: 4, -64: 127} {
		if got := Signed(nil, n); !bytes.Equal(got, []byte{want}) {
			t.Errorf("%d: %x", n, got)
		}
	}
}

func TestNewMemory(t *testing.T) {
	for _, call := range []func([]byte) []byte{
		func(b []byte) []byte { return Append(b, 300) },
		func(b []byte) []byte { return Signed(b, 300) },
	} {
		room := bytes.Repeat([]byte{0xee}, 30)
		out := call(room[:2])
		for i := range out[:cap(out)] {
			out[:cap(out)][i] = 1
		}
		if !bytes.Equal(room, bytes.Repeat([]byte{0xee}, 30)) {
			t.Errorf("what was handed in is changed: %x", room)
		}
	}
}

func TestTakeWrong(t *testing.T) {
	ff := func(n int) []byte { return bytes.Repeat([]byte{0xff}, n) }
	for _, b := range [][]byte{
		nil, {}, {0x80}, {0x80, 0}, {0x80, 0x81, 0}, {0x81}, {0xff}, {0x81, 0x80}, ff(9), ff(10), ff(20),
		append(ff(10), 0), append(ff(9), 0x7f), {0x82, 0x80, 0x80, 0x80, 0x80, 0x80, 0x80, 0x80, 0x80, 0},
		append([]byte{0x83}, append(ff(8), 0x7f)...), append([]byte{0x81}, append(ff(9), 0)...),
	} {
		if n, used, e := Take(b); n != 0 || used != 0 || e != api.ErrForm {
			t.Errorf("%x: %d %d %d", b, n, used, e)
		}
		if n, used, e := TakeSigned(b); n != 0 || used != 0 || e != api.ErrForm {
			t.Errorf("%x: %d %d %d", b, n, used, e)
		}
	}
}

func TestTakeLooksAtTheFirst(t *testing.T) {
	for _, c := range []struct {
		b    []byte
		n    uint64
		used int
	}{{[]byte{0, 0x80}, 0, 1}, {[]byte{5, 6}, 5, 1}, {[]byte{0x81, 0x80, 0, 0xff}, 1 << 14, 3}} {
		if n, used, e := Take(c.b); n != c.n || used != c.used || e != api.OK {
			t.Errorf("%x: %d %d %d", c.b, n, used, e)
		}
	}
}
